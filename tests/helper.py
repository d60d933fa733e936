"""What several files of tests need: machines to try, and other ways to reckon what the program tells."""

from itertools import permutations, product

BREADTHS = (2, 3, 4, 5)


def rearrangings(letters):
    return list(permutations(range(letters)))


def words(letters, many):
    return list(product(range(letters), repeat=many))


def read(rows, at, word):
    """What a machine begun at a row makes of a word, letter by letter."""
    made = []
    for letter in word:
        rearranging, goings = rows[at]
        made.append(rearranging[letter])
        at = goings[letter]
    return tuple(made)


def unlike_pairs(rows):
    """The pairs of rows that aren't alike: marked where their letters part, then backwards by the goings."""
    pairs = [(one, other) for one in range(len(rows)) for other in range(one)]
    unlike = {frozenset(pair) for pair in pairs if rows[pair[0]][0] != rows[pair[1]][0]}
    grown = True
    while grown:
        grown = False
        for one, other in pairs:
            steps = zip(rows[one][1], rows[other][1])
            if frozenset((one, other)) not in unlike and any(frozenset(step) in unlike for step in steps):
                unlike.add(frozenset((one, other)))
                grown = True
    return unlike


def slow_form(rows):
    """The form, reckoned by the marked pairs."""
    unlike = unlike_pairs(rows)

    def stand_in(row):
        return min(other for other in range(len(rows)) if frozenset((row, other)) not in unlike)

    order = [stand_in(0)]
    for row in order:
        for going in rows[row][1]:
            if stand_in(going) not in order:
                order.append(stand_in(going))
    return tuple(
        (rows[row][0], tuple(order.index(stand_in(going)) for going in rows[row][1]))
        for row in order
    )


def mixed_numbers(seed):
    """Endless numbers without a plain order, the same ones for the same seed."""
    state = seed
    while True:
        state = (state * 6364136223846793005 + 1442695040888963407) % (1 << 64)
        yield state >> 33


def mixed_machine(letters, many, seed, swaps=None):
    """A machine of many rows without a plain order; the fewer rearrangings it chooses from, the more rows are alike."""
    numbers = mixed_numbers(seed)
    choice = rearrangings(letters)[:swaps]
    return [
        (choice[next(numbers) % len(choice)], tuple(next(numbers) % many for letter in range(letters)))
        for row in range(many)
    ]


def swap(letters):
    """The rearranging that swaps the first two letters."""
    return (1, 0) + tuple(range(2, letters))


def ring_machine(letters, many, swapped=(0,)):
    """A machine whose rows go round, whatever is read; the rows told swap two letters, the others leave all."""
    leave = tuple(range(letters))
    return [
        (swap(letters) if row in swapped else leave, ((row + 1) % many,) * letters)
        for row in range(many)
    ]


def chain_machine(letters, many):
    """A machine that goes to its last row whatever is read and stays there; the last row alone swaps letters."""
    leave = tuple(range(letters))
    return [
        (swap(letters) if row == many - 1 else leave, (min(row + 1, many - 1),) * letters)
        for row in range(many)
    ]
