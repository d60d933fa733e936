"""What several files of tests need: machines to try, and other ways to reckon what the program tells."""

from collections import deque
from itertools import permutations, product

from guisery.errors import NothingLeft
from guisery.joining import branched
from guisery.machines import form, still

BREADTHS = (2, 3, 4, 5)
FAR = 10 ** 40


def rearrangings(letters):
    return list(permutations(range(letters)))


def words(letters, many):
    return list(product(range(letters), repeat=many))


def short_words(letters, most):
    """All words of at most so many letters, the shorter ones first, of one length by rising letters."""
    return [word for many in range(most + 1) for word in words(letters, many)]


def is_tuples_all_through(told):
    if isinstance(told, int):
        return type(told) is int
    return type(told) is tuple and all(is_tuples_all_through(part) for part in told)


def read(rows, at, word):
    """What a machine begun at a row makes of a word, letter by letter."""
    made = []
    for letter in word:
        rearranging, goings = rows[at]
        made.append(rearranging[letter])
        at = goings[letter]
    return tuple(made)


def unlike_pairs(rows):
    """The pairs of rows that aren't alike: marked where their letters part, then backwards by the goings."""
    pairs = [(one, other) for one in range(len(rows)) for other in range(one)]
    unlike = {frozenset(pair) for pair in pairs if rows[pair[0]][0] != rows[pair[1]][0]}
    grown = True
    while grown:
        grown = False
        for one, other in pairs:
            steps = zip(rows[one][1], rows[other][1])
            if frozenset((one, other)) not in unlike and any(frozenset(step) in unlike for step in steps):
                unlike.add(frozenset((one, other)))
                grown = True
    return unlike


def slow_form(rows):
    """The form, reckoned by the marked pairs."""
    unlike = unlike_pairs(rows)

    def stand_in(row):
        return min(other for other in range(len(rows)) if frozenset((row, other)) not in unlike)

    order = [stand_in(0)]
    for row in order:
        for going in rows[row][1]:
            if stand_in(going) not in order:
                order.append(stand_in(going))
    return tuple(
        (rows[row][0], tuple(order.index(stand_in(going)) for going in rows[row][1]))
        for row in order
    )


def mixed_numbers(seed):
    """Endless numbers without a plain order, the same ones for the same seed."""
    state = seed
    while True:
        state = (state * 6364136223846793005 + 1442695040888963407) % (1 << 64)
        yield state >> 33


def mixed_machine(letters, many, seed, swaps=None):
    """A machine of many rows without a plain order; the fewer rearrangings it chooses from, the more rows are alike."""
    numbers = mixed_numbers(seed)
    choice = rearrangings(letters)[:swaps]
    return [
        (choice[next(numbers) % len(choice)], tuple(next(numbers) % many for letter in range(letters)))
        for row in range(many)
    ]


def swap(letters):
    """The rearranging that swaps the first two letters."""
    return (1, 0) + tuple(range(2, letters))


def ring_machine(letters, many, swapped=(0,)):
    """A machine whose rows go round, whatever is read; the rows told swap two letters, the others leave all."""
    leave = tuple(range(letters))
    return [
        (swap(letters) if row in swapped else leave, ((row + 1) % many,) * letters)
        for row in range(many)
    ]


def chain_machine(letters, many):
    """A machine that goes to its last row whatever is read and stays there; the last row alone swaps letters."""
    leave = tuple(range(letters))
    return [
        (swap(letters) if row == many - 1 else leave, (min(row + 1, many - 1),) * letters)
        for row in range(many)
    ]


def stairs_machine(letters, many):
    """A machine that climbs a row at each last letter, begins anew at another one, and swaps letters at the top alone."""
    leave = tuple(range(letters))
    return [
        (swap(letters) if row == many - 1 else leave, (0,) * (letters - 1) + (min(row + 1, many - 1),))
        for row in range(many)
    ]


def counter_machine(letters):
    """A machine that adds one to a number whose figures are the letters, the weightiest one last."""
    leave = tuple(range(letters))
    return [(leave[1:] + (0,), (1,) * (letters - 1) + (0,)), (leave, (1,) * letters)]


def pair_machine(one, other):
    """The machine of all pairs of rows that does what the one and then the other do."""
    return [
        (
            tuple(then[letter] for letter in first),
            tuple(goings[letter] * len(other) + ways[first[letter]] for letter in range(len(first))),
        )
        for first, goings in one
        for then, ways in other
    ]


def machine_back(rows):
    """The machine, row by row, that makes of each word the one that it came of."""
    turned_back = []
    for rearranging, goings in rows:
        letters = range(len(rearranging))
        came_of = tuple(rearranging.index(letter) for letter in letters)
        turned_back.append((came_of, tuple(goings[came_of[letter]] for letter in letters)))
    return turned_back


def lengths_to_part(one, other):
    """For each pair of rows that part, the length of the shortest word at which they do, found backwards."""
    pairs = [(row, beside) for row in range(len(one)) for beside in range(len(other))]
    lengths = {pair: 1 for pair in pairs if one[pair[0]][0] != other[pair[1]][0]}
    length, grown = 1, True
    while grown:
        length += 1
        found = [
            pair for pair in pairs
            if pair not in lengths and any(step in lengths for step in zip(one[pair[0]][1], other[pair[1]][1]))
        ]
        lengths.update((pair, length) for pair in found)
        grown = bool(found)
    return lengths


def slow_parted(one, other):
    """The word at which two machines part, letter by letter along the shortest lengths."""
    lengths = lengths_to_part(one, other)
    if (0, 0) not in lengths:
        return None
    word, row, beside = (), 0, 0
    for left in range(lengths[0, 0] - 1, 0, -1):
        steps = list(zip(one[row][1], other[beside][1]))
        letter = min(letter for letter, step in enumerate(steps) if lengths.get(step) == left)
        word += (letter,)
        row, beside = steps[letter]
    made = zip(one[row][0], other[beside][0])
    return word + (min(letter for letter, (here, there) in enumerate(made) if here != there),)


def late_letters(one, other):
    """A word of noughts and ones, as long as one + other - 2, that comes again both after one and after other letters.

    The two numbers have no common part. One letter more and it would be of one letter alone.
    """
    many = one + other - 2
    letters = [None] * many
    for letter, begin in ((0, one - 1), (1, other - 1)):
        places = [begin]
        while places:
            place = places.pop()
            if 0 <= place < many and letters[place] is None:
                letters[place] = letter
                places += [place - one, place + one, place - other, place + other]
    return tuple(letters)


def mixed_word(letters, many, seed):
    numbers = mixed_numbers(seed)
    return tuple(next(numbers) % letters for place in range(many))


def mixed(letters, many, seed, swaps=None):
    return form(letters, mixed_machine(letters, many, seed, swaps))


def ring(letters, many, swapped=(0,)):
    return form(letters, ring_machine(letters, many, swapped))


def chain(letters, many):
    return form(letters, chain_machine(letters, many))


def stairs(letters, many):
    return form(letters, stairs_machine(letters, many))


def counter(letters):
    return form(letters, counter_machine(letters))


def tailed_ring(letters, ahead, many):
    """A guise of so many rows ahead of a ring, and so many in the ring, gone through whatever is read."""
    leave = tuple(range(letters))
    rows = [(leave, (row + 1,) * letters) for row in range(ahead + many)]
    rows[ahead - 1] = (swap(letters), (ahead,) * letters)
    rows[ahead] = (swap(letters), (ahead + 1,) * letters)
    rows[-1] = (leave, (ahead,) * letters)
    return form(letters, rows)


def changing(letters, one, other):
    """The first two letters swapped, the one guise behind 0 and the other behind 1, and all still behind the others."""
    return branched(swap(letters), [one, other] + [still(letters)] * (letters - 2))


def some_guises(letters):
    """Small ones and large ones, of up to sixty rows."""
    return [
        still(letters), counter(letters), ring(letters, 7), chain(letters, 5), mixed(letters, 4, 1),
        mixed(letters, 9, 2), ring(letters, 60), chain(letters, 60), stairs(letters, 60), mixed(letters, 60, 3),
    ]


def laid_out(endless, many):
    """The first letters of an endless word, laid one behind another."""
    beginning, ring = endless
    laid = list(beginning)
    while len(laid) < many:
        laid += ring
    return tuple(laid[:many])


def is_plain(endless):
    beginning, ring = endless
    whole = [size for size in range(1, len(ring)) if len(ring) % size == 0 and ring == ring[:size] * (len(ring) // size)]
    return len(ring) > 0 and not whole and (not beginning or beginning[-1] != ring[-1])


def told_in_ways(endless):
    """Other pairs for the same endless word."""
    beginning, ring = endless
    for more in (0, 1, len(ring) - 1, len(ring), len(ring) + 1, 3 * len(ring) + 2):
        cut = more % len(ring)
        longer = beginning + laid_out(((), ring), more)
        for many in (1, 2, 3):
            yield (longer, (ring[cut:] + ring[:cut]) * many)


def small_endless(letters, most):
    return [(beginning, ring) for beginning in short_words(letters, most) for ring in short_words(letters, most) if ring]


def slow_plain(beginning, ring):
    """The plain pair, one letter at a time."""
    size = min(size for size in range(1, len(ring) + 1) if len(ring) % size == 0 and ring == ring[:size] * (len(ring) // size))
    beginning, ring = list(beginning), deque(ring[:size])
    while beginning and beginning[-1] == ring[-1]:
        ring.rotate(1)
        beginning.pop()
    return (tuple(beginning), tuple(ring))


def row_behind(rows, at, word):
    """The row at which a machine begun at a row goes on behind a word."""
    for letter in word:
        at = rows[at][1][letter]
    return at


def slow_worn(rows, endless):
    """What a machine makes of an endless word: the ring read again and again until a row comes again, then plain."""
    beginning, ring = endless
    begun = [row_behind(rows, 0, beginning)]
    while begun[-1] not in begun[:-1]:
        begun.append(row_behind(rows, begun[-1], ring))
    made = [read(rows, at, ring) for at in begun[:-1]]
    first = begun.index(begun[-1])
    return slow_plain(read(rows, 0, beginning) + sum(made[:first], ()), sum(made[first:], ()))


def spoilt(word, letters):
    """The word with what is no letter at its first, a middle and its last place."""
    for wrong in (letters, letters + 1, 10, FAR, -1, -letters, -FAR):
        for at in sorted({0, len(word) // 2, len(word) - 1}):
            yield word[:at] + (wrong,) + word[at + 1:]


def stand(house):
    """All that a house tells of how it stands."""
    return (
        house.letters(), house.deeds(),
        {name: house.guise(name) for name in house.names()},
        {peg: (house.word(peg), house.first_word(peg), house.layers(peg)) for peg in house.pegs()},
    )


def stands(house):
    """How a house stands, and each stand that it comes to when all is taken back, and when all is done again."""
    told = [stand(house)]
    for back in (True, False):
        other = house.twin()
        try:
            while True:
                other.undo() if back else other.redo()
                told.append((back, stand(other)))
        except NothingLeft:
            pass
    return told
