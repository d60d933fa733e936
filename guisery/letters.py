"""Rearrangings of the letters: at place k stands the letter that k becomes."""


def same_letters(letters):
    """The rearranging that leaves each letter."""
    return tuple(range(letters))


def turned(one, other):
    """The one rearranging and then the other."""
    return tuple([other[letter] for letter in one])


def undone(one):
    """The rearranging that takes the one back."""
    came_of = [0] * len(one)
    for letter, becomes in enumerate(one):
        came_of[becomes] = letter
    return tuple(came_of)


def rearranges(letters, numbers):
    """Whether each of so many letters stands once among the numbers, and nothing else does."""
    return sorted(numbers) == list(range(letters))
