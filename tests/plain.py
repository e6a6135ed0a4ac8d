"""The rounds of the document, word for word and slowly, to hold the program against."""

import itertools

from floorward.averages import Average
from floorward.halves import Halves
from floorward.steps import Steps

STOPS = ("notless", "equal", "near1", "near2", "back", "under", "held")
TELLINGS = ("old", "new", "less", "more")
MENDS = ("none", "down", "up", "both")
# Thirty thousand figures.
HUGE = 10 ** 30000 - 12345678901234567891


def plain_root(n, k):
    r = 0
    while (r + 1) ** k <= n:
        r += 1
    return r


def all_steps():
    """All possible (k, a, c, d)."""
    return [(k, a, c, d) for k in (2, 3, 4) for a in range(1, 6) for c in range(1, 6)
            if a >= c * (k - 1) and a + c <= 6 for d in range(-a, a + c + 1)]


def all_ends():
    """All possible (stop, told)."""
    return [(stop, told) for stop in STOPS for told in TELLINGS
            if told == "old" or stop not in ("under", "held")]


def some_loops(every):
    """Each so-many-th of all possible loops."""
    loops = [step + end + (mend,) for step in all_steps() for end in all_ends() for mend in MENDS]
    return [Average(*parts) for parts in loops[::every]]


def all_halves():
    return [Halves(*parts) for parts in itertools.product((0, 1), ("upto", "below"), (0, 1), (0, 1),
                                                          ("less", "most", "wide"), ("low", "high"), (-1, 0, 1))]


def all_stepping():
    """All loops with steps."""
    return [Steps(*parts) for parts in itertools.product(("upto", "below"), ("half", "same", "double"), (1, 2),
                                                         (-1, 0, 1))]


def plain_step(loop, n, x):
    return (loop.a * x + loop.c * (n // x ** (loop.k - 1)) + loop.d) // (loop.a + loop.c)


def plain_end(loop, n, before, x, y):
    """Whether the step from x to y ends the run."""
    return {"notless": y >= x, "equal": y == x, "near1": abs(y - x) <= 1, "near2": abs(y - x) <= 2,
            "back": y == x or (before is not None and y == before),
            "under": False, "held": False}[loop.stop]


def plain_mend(loop, n, t):
    k = loop.k
    if loop.mend in ("down", "both") and t ** k > n:
        return t - 1
    if loop.mend in ("up", "both") and (t + 1) ** k <= n:
        return t + 1
    return t


def plain_run(loop, n, start):
    """(guesses, end, told, ring) of a run."""
    k = loop.k
    guesses, befores = [], []
    before, x = None, start
    while True:
        for at, guess in enumerate(guesses):
            if guess == x and (loop.stop != "back" or befores[at] == before):
                return tuple(guesses), "swings", None, tuple(guesses[at:])
        guesses.append(x)
        befores.append(before)
        if loop.stop == "under" and x ** k <= n or loop.stop == "held" and x ** k <= n < (x + 1) ** k:
            return tuple(guesses), "told", plain_mend(loop, n, x), ()
        if x == 0:
            return tuple(guesses), "nought", None, ()
        y = plain_step(loop, n, x)
        if plain_end(loop, n, before, x, y):
            t = {"old": x, "new": y, "less": min(x, y), "more": max(x, y)}[loop.told]
            return tuple(guesses), "told", plain_mend(loop, n, t), ()
        before, x = x, y


def plain_tells(loop, n, starts):
    """The outcomes of the runs from some starts."""
    numbers, words = set(), set()
    for start in starts:
        _, end, told, _ = plain_run(loop, n, start)
        if end == "told":
            numbers.add(told)
        else:
            words.add(end)
    return tuple(sorted(numbers)) + tuple(sorted(words))


def plain_window(loop):
    """The least and the greatest gap of the window of [18]."""
    m = loop.a + loop.c
    e = {"near1": 1, "near2": 2}.get(loop.stop, 0)
    gaps = [0]
    for _ in range(60):
        gaps.append(((loop.a - loop.c * (loop.k - 1)) * gaps[-1] + loop.d) // m)
    return min(gaps), 1 + max(0, loop.d + e * m) // (loop.c * loop.k)


def plain_compare(kind, by, n, x):
    """-1, 0 or 1 as [30] says."""
    worth = {"root": lambda: x ** by, "share": lambda: by * x, "log": lambda: by ** x}[kind]()
    return (worth > n) - (worth < n)


def plain_answer(kind, by, n):
    x = 0
    while plain_compare(kind, by, n, x + 1) <= 0:
        x += 1
    return x


def plain_passes(compared, test):
    """Whether x with the compare `compared` compares as the test asks for."""
    return {"upto": compared <= 0, "below": compared < 0}[test]


def plain_halves(halves, compare, lo, hi):
    """(mids, end, told) of a run of a loop with two ends; `compare` tells of a number how it compares."""
    mids, seen = [], []
    while {"less": lo < hi, "most": lo <= hi, "wide": hi - lo > 1}[halves.stop]:
        if (lo, hi) in seen:
            return tuple(mids), "swings", None
        seen.append((lo, hi))
        mid = (lo + hi + halves.up) // 2
        mids.append(mid)
        if plain_passes(compare(mid), halves.test):
            lo = mid + halves.low
        else:
            hi = mid - halves.high
    return tuple(mids), "told", {"low": lo, "high": hi}[halves.told] + halves.plus


def plain_steps(steps, compare, x, p):
    """(places, told) of a run of a loop with steps."""
    places = []
    while p >= steps.last:
        places.append((x, p))
        if plain_passes(compare(x + p), steps.test):
            x, p = x + p, {"half": p // 2, "same": p, "double": 2 * p}[steps.after]
        else:
            p = p // 2
    return tuple(places), x + steps.plus


def compare_with(answer, hit):
    """How numbers compare if this is the answer."""
    return lambda x: -1 if x < answer or x == answer and not hit else 0 if x == answer else 1
