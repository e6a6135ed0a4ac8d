"""Loops with two ends, which seek by halves."""

from floorward.errors import BadBracket, BadKind, BadLoop
from floorward.numbers import is_from, is_within
from floorward.parts import first_wrong, is_word
from floorward.sought import TESTS, passes, thing_with

STOPS = ("less", "most", "wide")
TELLINGS = ("low", "high")
KINDS = ("closed", "open")

# A greater end than this is not needed to find all that comes of runs.
MOST_HI = 8


def wrong_part(up, test, low, high, stop, told, plus):
    """Return the name of the first part of a loop with two ends that is not so, or None."""
    return first_wrong((("up", is_within(up, 0, 1)), ("test", is_word(test, TESTS)), ("low", is_within(low, 0, 1)),
                        ("high", is_within(high, 0, 1)), ("stop", is_word(stop, STOPS)),
                        ("told", is_word(told, TELLINGS)), ("plus", is_within(plus, -1, 1))))


class Halves:
    """A loop that seeks between two ends."""

    def __init__(self, up, test, low, high, stop, told, plus):
        word = wrong_part(up, test, low, high, stop, told, plus)
        if word is not None:
            raise BadLoop(word)
        self.up = up
        self.test = test
        self.low = low
        self.high = high
        self.stop = stop
        self.told = told
        self.plus = plus

    def __eq__(self, other):
        return (isinstance(other, Halves) and self.up == other.up and self.test == other.test
                and self.low == other.low and self.high == other.high and self.stop == other.stop
                and self.told == other.told and self.plus == other.plus)

    def run(self, sought, lo, hi):
        """Return the run for a sought thing from two ends."""
        if not is_from(lo, 0) or not is_from(hi, lo):
            raise BadBracket()
        mids = []
        while goes_on(self.stop, lo, hi):
            mid = (lo + hi + self.up) // 2
            mids.append(mid)
            ends = (mid + self.low, hi) if passes(sought, self.test, mid) else (lo, mid - self.high)
            # No end ever moves outwards, so ends come again only if a round leaves both where they were.
            if ends == (lo, hi):
                return HalvesRun(tuple(mids), "swings", None)
            lo, hi = ends
        return HalvesRun(tuple(mids), "told", (lo if self.told == "low" else hi) + self.plus)

    def text(self):
        """Return the line that tells the loop."""
        return f"halves {self.up} {self.test} {self.low} {self.high} {self.stop} {self.told} {self.plus}"


class HalvesRun:
    """What a run of a loop with two ends went through, and how it ended."""

    def __init__(self, mids, end, told):
        self.mids = mids
        self.end = end
        self.told = told


def goes_on(stop, lo, hi):
    """Tell whether there is another round."""
    if stop == "less":
        return lo < hi
    if stop == "most":
        return lo <= hi
    return hi - lo > 1


def narrow_starts(bracket):
    """Return (hi, answer, hit) of the narrow brackets from 0: all that comes of any brackets comes of these.

    A round in a bracket that is wider than 1 leads to a narrower one, and no end ever passes the answer by more than 1.
    An end that comes to where no bracket of this kind has it stays there until the other one is near; and there such
    ends come of narrow brackets, too.
    """
    if not is_word(bracket, KINDS):
        raise BadKind(bracket)
    apart = 1 if bracket == "open" else 0
    return [(hi, answer, hit) for hi in range(apart, MOST_HI + 1) for answer in range(hi + 1 - apart)
            for hit in (False, True)]


def outcome(halves, hi, answer, hit):
    """Return what comes of the run from 0 and hi: the number told less the answer, or "swings"."""
    course = halves.run(thing_with(answer, hit), 0, hi)
    return "swings" if course.end == "swings" else course.told - answer


def halves_tells(halves, bracket):
    """Return all that comes of runs from the brackets of a kind: numbers less the answer, then "swings"."""
    came = [outcome(halves, hi, answer, hit) for hi, answer, hit in narrow_starts(bracket)]
    numbers = sorted({told for told in came if told != "swings"})
    return tuple(numbers + ["swings"]) if "swings" in came else tuple(numbers)


def halves_fault(halves, bracket):
    """Return the first (lo, hi, answer, hit) for which a run does not tell the answer, or None."""
    for hi, answer, hit in narrow_starts(bracket):
        if outcome(halves, hi, answer, hit) != 0:
            return 0, hi, answer, hit
    return None
