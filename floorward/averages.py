"""Average loops: their steps, their runs, and what they tell for one number from all starts."""

from floorward.errors import BadLoop, BadStart
from floorward.numbers import is_from, is_within, power, require_number, root
from floorward.parts import is_word

STOPS = ("notless", "equal", "near1", "near2", "back", "under", "held")
LOOKS = ("under", "held")
TELLINGS = ("old", "new", "less", "more")
MENDS = ("none", "down", "up", "both")
MOST_WEIGHT = 6

# How far guess and next guess may be apart when the run ends.
REACHES = {"equal": 0, "near1": 1, "near2": 2}


def is_loop_power(k):
    """Tell of any object whether it is the power of some average loop."""
    return is_within(k, 2, 4)


def greatest_c(k, a):
    """Return the greatest weight c that goes with a power and a weight a; where there is none, it is below 1."""
    return min(a // (k - 1), MOST_WEIGHT - a)


def possible_weights(k):
    """Return the pairs of weights that average loops of a power may have, ascending."""
    return [(a, c) for a in range(1, MOST_WEIGHT) for c in range(1, greatest_c(k, a) + 1)]


def possible_tellings(stop):
    """Return the words that can be told with a stop: a look has no new guess."""
    return ("old",) if stop in LOOKS else TELLINGS


def wrong_part(k, a, c, d, stop, told, mend):
    """Return the name of the first part of an average loop that is not so, or None."""
    if not is_loop_power(k):
        return "k"
    if not is_within(a, 1, MOST_WEIGHT - 1):
        return "a"
    if not is_within(c, 1, greatest_c(k, a)):
        return "c"
    if not is_within(d, -a, a + c):
        return "d"
    if not is_word(stop, STOPS):
        return "stop"
    if not is_word(told, possible_tellings(stop)):
        return "told"
    if not is_word(mend, MENDS):
        return "mend"
    return None


def require_start(start):
    """Raise BadStart for anything but an integer from 1 on."""
    if not is_from(start, 1):
        raise BadStart(start)


class Average:
    """A loop that seeks the root of a number by weighted averages."""

    def __init__(self, k, a, c, d, stop, told="old", mend="none"):
        word = wrong_part(k, a, c, d, stop, told, mend)
        if word is not None:
            raise BadLoop(word)
        self.k = k
        self.a = a
        self.c = c
        self.d = d
        self.stop = stop
        self.told = told
        self.mend = mend

    def __eq__(self, other):
        return (isinstance(other, Average) and self.k == other.k and self.a == other.a and self.c == other.c
                and self.d == other.d and self.stop == other.stop and self.told == other.told
                and self.mend == other.mend)

    def step(self, n, x):
        """Return the guess to which the step leads from the guess x."""
        require_number(n)
        require_start(x)
        return next_guess(self, n, x)

    def run(self, n, start):
        """Return the run for n from a start."""
        require_number(n)
        require_start(start)
        return walk(self, root(n, self.k), lambda x: next_guess(self, n, x), start)

    def text(self):
        """Return the line that tells the loop."""
        return f"average {self.k} {self.a} {self.c} {self.d} {self.stop} {self.told} {self.mend}"


class Run:
    """What a run of an average loop went through, and how it ended."""

    def __init__(self, guesses, end, told, ring):
        self.guesses = guesses
        self.end = end
        self.told = told
        self.ring = ring

    def __eq__(self, other):
        return (isinstance(other, Run) and self.guesses == other.guesses and self.end == other.end
                and self.told == other.told and self.ring == other.ring)


def next_guess(loop, n, x):
    """Return the guess to which the step leads, number and guess known to be so."""
    quotient = n // power(x, loop.k - 1)
    return (loop.a * x + loop.c * quotient + loop.d) // (loop.a + loop.c)


# In what follows `floor` is the root of the number: a power of x is at most the number exactly if x <= floor,
# so no powers are needed. `step` is a function that leads from a guess to the next one.


def look_ends(stop, floor, x):
    """Tell whether the look at the beginning of a round ends the run."""
    if stop == "under":
        return x <= floor
    return stop == "held" and x == floor


def step_ends(stop, before, x, y):
    """Tell whether the step from x to y ends the run; `before` is the guess before x, or None."""
    if stop == "notless":
        return y >= x
    if stop == "back":
        return y == x or y == before
    return stop in REACHES and abs(y - x) <= REACHES[stop]


def chosen(told, x, y):
    """Return the number with which a run ends that a step from x to y ends."""
    if told == "old":
        return x
    if told == "new":
        return y
    return min(x, y) if told == "less" else max(x, y)


def mended(mend, floor, t):
    """Return the number that is told when a run ends with t."""
    if t > floor and mend in ("down", "both"):
        return t - 1
    if t < floor and mend in ("up", "both"):
        return t + 1
    return t


def do_round(loop, floor, step, before, x):
    """Do the round of a guess x: return "goes" and the next guess, "told" and the number, or "nought" and None."""
    if look_ends(loop.stop, floor, x):
        return "told", mended(loop.mend, floor, x)
    if x == 0:
        return "nought", None
    y = step(x)
    if step_ends(loop.stop, before, x, y):
        return "told", mended(loop.mend, floor, chosen(loop.told, x, y))
    return "goes", y


def walk(loop, floor, step, start):
    """Return the run from a start."""
    guesses = []
    rounds = {}
    before = None
    x = start
    while True:
        # With "back" a round hangs on the guess before, too.
        place = (before, x) if loop.stop == "back" else x
        if place in rounds:
            return Run(tuple(guesses), "swings", None, tuple(guesses[rounds[place]:]))
        rounds[place] = len(guesses)
        guesses.append(x)
        word, number = do_round(loop, floor, step, before, x)
        if word != "goes":
            return Run(tuple(guesses), word, number, ())
        before = x
        x = number


def reach_of(loop):
    """Return how far a step may fall at most when the stop ends the run there."""
    return REACHES.get(loop.stop, 0)


def first_falling(loop, n, floor):
    """Return the least guess above the root from which the step falls too far for the stop; all greater ones do so."""
    reach = reach_of(loop)
    x = floor + 1
    while x - next_guess(loop, n, x) <= reach:
        x += 1
    return x


def all_steps(loop, n, first, last):
    """Return the steps, by guesses, of all guesses that come of the starts from first to last."""
    steps = {}
    for start in range(first, last + 1):
        x = start
        while x > 0 and x not in steps:
            steps[x] = next_guess(loop, n, x)
            x = steps[x]
    return steps


def near_steps(loops, n, floor):
    """Return the steps that the starts near the root need, and these starts; the loops have the same step.

    Whatever starts further up falls, without an end, to one of these starts, or to where the last of them leads.
    """
    first = max(floor, 1)
    last = max([first_falling(loop, n, floor) for loop in loops])
    steps = all_steps(loops[0], n, first, last)
    if "back" in [loop.stop for loop in loops]:
        # A start up to the greatest of these guesses may be one to which a run comes back; beyond it none is.
        last = 1 + max(list(steps))
        steps = all_steps(loops[0], n, first, last)
    return steps, list(range(first, last + 1))


def next_turn(loop, n, steps):
    """Return the least number above n for which one of these steps leads elsewhere than for n."""
    turns = []
    for x, y in steps.items():
        # The step comes to y + 1 when the quotient by this power of x comes to be as great as this.
        least = -((loop.a * x + loop.d - (loop.a + loop.c) * (y + 1)) // loop.c)
        turns.append(least * power(x, loop.k - 1))
    return min(turns)


def outcomes(loop, floor, steps, starts):
    """Return what the runs from the starts come to: the numbers, ascending, then the words."""
    runs = [walk(loop, floor, lambda x: steps[x], start) for start in starts]
    numbers = sorted({run.told for run in runs if run.end == "told"})
    ends = [run.end for run in runs]
    return tuple(numbers + [word for word in ("nought", "swings") if word in ends])


def tells(loop, n):
    """Return what the runs for n from all starts come to."""
    require_number(n)
    floor = root(n, loop.k)
    steps, starts = near_steps([loop], n, floor)
    return outcomes(loop, floor, steps, starts)
