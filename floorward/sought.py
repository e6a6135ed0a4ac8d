"""Things that are sought: whole roots, whole quotients, whole logarithms."""

from floorward.errors import BadSought
from floorward.numbers import MOST_POWER, floor_root, is_from, is_within, power, sign_of
from floorward.parts import first_wrong, is_word

KINDS = ("root", "share", "log")
TESTS = ("upto", "below")


def wrong_part(kind, by, n):
    """Return the name of the first part of a sought thing that is not so, or None."""
    # A logarithm needs a base above 1 and a number above 0.
    more = 1 if is_word(kind, ("log",)) else 0
    return first_wrong((("kind", is_word(kind, KINDS)), ("by", is_within(by, 1 + more, MOST_POWER)),
                        ("n", is_from(n, more))))


class Sought:
    """The greatest integer x from 0 on for which x ** by, by * x or by ** x is at most n."""

    def __init__(self, kind, by, n):
        word = wrong_part(kind, by, n)
        if word is not None:
            raise BadSought(word)
        self.kind = kind
        self.by = by
        self.n = n

    def compare(self, x):
        """Return -1, 0 or 1 as x ** by, by * x or by ** x is less than n, equal to it or greater."""
        if self.kind == "root":
            return compare_power(x, self.by, self.n)
        if self.kind == "share":
            return sign_of(self.by * x - self.n)
        return compare_power(self.by, x, self.n)

    def answer(self):
        """Return the integer that is sought."""
        if self.kind == "root":
            return floor_root(self.n, self.by)
        if self.kind == "share":
            return self.n // self.by
        return floor_log(self.n, self.by)

    def is_hit(self):
        """Tell whether the answer compares as equal."""
        return self.compare(self.answer()) == 0


def compare_power(base, k, n):
    """Return -1, 0 or 1 as the k-th power of base is less than n, equal to it or greater."""
    # A power that has more figures than n is not worked out: it may be far too long.
    if (base.bit_length() - 1) * k >= n.bit_length():
        return 1
    return sign_of(power(base, k) - n)


def floor_log(n, base):
    """Return the greatest integer whose power of the base is at most n."""
    low = 0
    high = n.bit_length()
    while high - low > 1:
        middle = (low + high) // 2
        if compare_power(base, middle, n) > 0:
            high = middle
        else:
            low = middle
    return low


# What follows serves the loops that seek such things.


def passes(sought, test, x):
    """Tell whether x compares as at most n ("upto") or as less than n ("below")."""
    compared = sought.compare(x)
    return compared < 0 or (compared == 0 and test == "upto")


def thing_with(answer, hit):
    """Return a sought thing with an answer that is hit or not."""
    # All things compare alike below the answer, and above it, too. So this one stands for all with such an answer.
    return Sought("share", 2, 2 * answer if hit else 2 * answer + 1)
