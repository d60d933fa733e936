"""Where two guises part."""


def parted(one, other):
    """The shortest word at which two guises part, of several the least one; None where they are the same."""
    # Pairs of rows are come to by rising words, so the first pair that parts stands behind the word to tell.
    pairs = [(0, 0)]
    words = {(0, 0): ()}
    at = 0
    while at < len(pairs):
        word = words[pairs[at]]
        row, beside = pairs[at]
        becomes, goings = one[row]
        becomes_beside, goings_beside = other[beside]
        if becomes != becomes_beside:
            return word + (first_unlike(becomes, becomes_beside),)
        for letter, pair in enumerate(zip(goings, goings_beside)):
            if pair not in words:
                words[pair] = word + (letter,)
                pairs.append(pair)
        at += 1
    return None


def same(one, other):
    """Whether two guises make the same of every word."""
    return one == other


def first_unlike(one, other):
    """The least letter of which two unlike rearrangings make another one."""
    letter = 0
    while one[letter] == other[letter]:
        letter += 1
    return letter
