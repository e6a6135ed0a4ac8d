"""Loops that seek by growing or shrinking steps."""

from floorward.errors import BadLoop, BadStart
from floorward.numbers import is_from, is_within
from floorward.parts import first_wrong, is_word
from floorward.sought import TESTS, passes, thing_with

AFTERS = ("half", "same", "double")

# Greater first steps than these are not needed to find all that comes of runs.
FIRST_STEPS = (1, 2, 4, 8)


def wrong_part(test, after, last, plus):
    """Return the name of the first part of a loop with steps that is not so, or None."""
    return first_wrong((("test", is_word(test, TESTS)), ("after", is_word(after, AFTERS)),
                        ("last", is_within(last, 1, 2)), ("plus", is_within(plus, -1, 1))))


class Steps:
    """A loop that goes up by steps p, as long as they do not lead too far."""

    def __init__(self, test, after, last, plus):
        word = wrong_part(test, after, last, plus)
        if word is not None:
            raise BadLoop(word)
        self.test = test
        self.after = after
        self.last = last
        self.plus = plus

    def __eq__(self, other):
        return (isinstance(other, Steps) and self.test == other.test and self.after == other.after
                and self.last == other.last and self.plus == other.plus)

    def run(self, sought, x, p):
        """Return the run for a sought thing from a place and a first step."""
        if not is_from(x, 0):
            raise BadStart(x)
        if not is_from(p, 1):
            raise BadStart(p)
        places = []
        while p >= self.last:
            places.append((x, p))
            if passes(sought, self.test, x + p):
                x += p
                p = step_after(self.after, p)
            else:
                p //= 2
        return StepsRun(tuple(places), x + self.plus)

    def text(self):
        """Return the line that tells the loop."""
        return f"steps {self.test} {self.after} {self.last} {self.plus}"


class StepsRun:
    """What a run of a loop with steps went through, and what it told."""

    def __init__(self, places, told):
        self.places = places
        self.told = told


def step_after(after, p):
    """Return the step behind a step that was made."""
    if after == "half":
        return p // 2
    return p if after == "same" else 2 * p


def short_starts():
    """Return (p, answer, hit) of the starts from 0 with short steps: all that comes of any starts comes of these.

    What is left up to the last place that passes is always below 2 * p. So in the end nothing is left, or what `last`
    leaves out, which is 1; or the start was above that place from the beginning.
    """
    return [(p, answer, hit) for p in FIRST_STEPS for answer in range(2 * p) for hit in (False, True)]


def told_beyond(steps, p, answer, hit):
    """Return the number told in the run from 0 with a first step, less the answer."""
    return steps.run(thing_with(answer, hit), 0, p).told - answer


def steps_tells(steps):
    """Return the numbers told less the answer, ascending, for all things and starts."""
    return tuple(sorted({told_beyond(steps, p, answer, hit) for p, answer, hit in short_starts()}))


def steps_fault(steps):
    """Return the first (p, answer, hit) for which the run from 0 does not tell the answer, or None."""
    for p, answer, hit in short_starts():
        if told_beyond(steps, p, answer, hit) != 0:
            return p, answer, hit
    return None
