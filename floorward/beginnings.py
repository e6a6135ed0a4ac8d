"""Beginnings: starts that are told by the number."""

from floorward.errors import BadBeginning
from floorward.numbers import is_within, power
from floorward.parts import first_wrong

MOST_BY = 99


class Share:
    """The beginning n // by + more."""

    def __init__(self, by, more):
        word = first_wrong((("by", is_within(by, 1, MOST_BY)), ("more", is_within(more, 0, 99))))
        if word is not None:
            raise BadBeginning(word)
        self.by = by
        self.more = more

    def __eq__(self, other):
        return isinstance(other, Share) and self.by == other.by and self.more == other.more

    def at(self, n, k):
        """Return the start for a number; it is the same for each power k."""
        return n // self.by + self.more


class Power:
    """The beginning that is the least power of two above the root, more times doubled (below 0: halved)."""

    def __init__(self, more):
        if not is_within(more, -9, 9):
            raise BadBeginning("more")
        self.more = more

    def __eq__(self, other):
        return isinstance(other, Power) and self.more == other.more

    def at(self, n, k):
        """Return the start for a number and a power k."""
        figures = (n.bit_length() + k - 1) // k
        return 1 << max(0, figures + self.more)


def too_low(beginning, k):
    """Return the least number from 1 on for which the beginning is below the root, or None."""
    # A beginning never falls while the number rises, so for each root its least number is enough. A share is not below
    # a root that is at least `by`. A power of two that is ever too low is so for 2 (it is 1) or for 3 (it is 2).
    for floor in range(1, MOST_BY + 1):
        n = power(floor, k)
        if beginning.at(n, k) < floor:
            return n
    return None
