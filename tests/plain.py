"""The rounds of the document, word for word and slowly, to hold the program against."""

from floorward.averages import Average

STOPS = ("notless", "equal", "near1", "near2", "back", "under", "held")
TELLINGS = ("old", "new", "less", "more")
MENDS = ("none", "down", "up", "both")


def plain_root(n, k):
    r = 0
    while (r + 1) ** k <= n:
        r += 1
    return r


def all_steps():
    """All possible (k, a, c, d)."""
    return [(k, a, c, d) for k in (2, 3, 4) for a in range(1, 6) for c in range(1, 6)
            if a >= c * (k - 1) and a + c <= 6 for d in range(-a, a + c + 1)]


def all_ends():
    """All possible (stop, told)."""
    return [(stop, told) for stop in STOPS for told in TELLINGS
            if told == "old" or stop not in ("under", "held")]


def some_loops(every):
    """Each so-many-th of all possible loops."""
    loops = [step + end + (mend,) for step in all_steps() for end in all_ends() for mend in MENDS]
    return [Average(*parts) for parts in loops[::every]]


def plain_step(loop, n, x):
    return (loop.a * x + loop.c * (n // x ** (loop.k - 1)) + loop.d) // (loop.a + loop.c)


def plain_end(loop, n, before, x, y):
    """Whether the step from x to y ends the run."""
    return {"notless": y >= x, "equal": y == x, "near1": abs(y - x) <= 1, "near2": abs(y - x) <= 2,
            "back": y == x or (before is not None and y == before),
            "under": False, "held": False}[loop.stop]


def plain_mend(loop, n, t):
    k = loop.k
    if loop.mend in ("down", "both") and t ** k > n:
        return t - 1
    if loop.mend in ("up", "both") and (t + 1) ** k <= n:
        return t + 1
    return t


def plain_run(loop, n, start):
    """(guesses, end, told, ring) of a run."""
    k = loop.k
    guesses, befores = [], []
    before, x = None, start
    while True:
        for at, guess in enumerate(guesses):
            if guess == x and (loop.stop != "back" or befores[at] == before):
                return tuple(guesses), "swings", None, tuple(guesses[at:])
        guesses.append(x)
        befores.append(before)
        if loop.stop == "under" and x ** k <= n or loop.stop == "held" and x ** k <= n < (x + 1) ** k:
            return tuple(guesses), "told", plain_mend(loop, n, x), ()
        if x == 0:
            return tuple(guesses), "nought", None, ()
        y = plain_step(loop, n, x)
        if plain_end(loop, n, before, x, y):
            t = {"old": x, "new": y, "less": min(x, y), "more": max(x, y)}[loop.told]
            return tuple(guesses), "told", plain_mend(loop, n, t), ()
        before, x = x, y


def plain_tells(loop, n, starts):
    """The outcomes of the runs from some starts."""
    numbers, words = set(), set()
    for start in starts:
        _, end, told, _ = plain_run(loop, n, start)
        if end == "told":
            numbers.add(told)
        else:
            words.add(end)
    return tuple(sorted(numbers)) + tuple(sorted(words))


def plain_window(loop):
    """The least and the greatest gap of the window of [18]."""
    m = loop.a + loop.c
    e = {"near1": 1, "near2": 2}.get(loop.stop, 0)
    gaps = [0]
    for _ in range(60):
        gaps.append(((loop.a - loop.c * (loop.k - 1)) * gaps[-1] + loop.d) // m)
    return min(gaps), 1 + max(0, loop.d + e * m) // (loop.c * loop.k)
