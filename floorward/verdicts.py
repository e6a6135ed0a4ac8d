"""Verdicts for all numbers: whether a loop is right, and where two loops part."""

from floorward.averages import near_steps, next_turn, outcomes, walk
from floorward.errors import UnlikePowers, UnlikeSteps
from floorward.numbers import poly_minus, power, settled_from
from floorward.tables import table


class Fault:
    """The least number, and the least start for it, from which a loop does not tell the root."""

    def __init__(self, n, start, course, root, rest):
        self.n = n
        self.start = start
        self.course = course
        self.root = root
        self.rest = rest


class Parting:
    """The least number for which two loops have not the same outcomes, and the outcomes of both."""

    def __init__(self, n, both):
        self.n = n
        self.tells = both


# From the first root of a table on all roots have the same stretches with the same steps by gaps. So nothing can be
# found for a greater root that is not found for this one, and a search that ends with its last number is enough.


def search(k, last_root, look):
    """Return the first thing that is found, number by number, up to the last one with the given root, or None.

    `look` is called with a number and its root. It returns what it finds or None, and the next number to look at.
    """
    for floor in range(1, last_root + 1):
        n = power(floor, k)
        behind = power(floor + 1, k)
        while n < behind:
            found, following = look(n, floor)
            if found is not None:
                return found
            n = following
    return None


def fault(loop):
    """Return where a loop does not tell the root, or None if it is right."""
    return search(loop.k, table(loop)[0], lambda n, floor: fault_at(loop, n, floor))


def fault_at(loop, n, floor):
    """Return the fault for a number, or None, and the next number for which a step leads elsewhere."""
    steps, starts = near_steps([loop], n, floor)
    for start in starts:
        course = walk(loop, floor, lambda x: steps[x], start)
        if course.told != floor:
            return Fault(n, start, course, floor, n - power(floor, loop.k)), n
    return None, next_turn(loop, n, steps)


def is_right(loop):
    """Tell whether a loop tells the root of all numbers from all starts."""
    return fault(loop) is None


def parting(one, other):
    """Return where two loops of one power have not the same outcomes, or None."""
    if one.k != other.k:
        raise UnlikePowers()
    return search(one.k, common_first(table(one), table(other)), lambda n, floor: parting_at(one, other, n, floor))


def common_first(one, other):
    """Return a root from which on the cuts of two tables stand in one order, with everything as the tables say."""
    first = max(one[0], other[0])
    for cut in one[3]:
        for beside in other[3]:
            first = settled_from(poly_minus(cut, beside), first)
    return first


def parting_at(one, other, n, floor):
    """Return the parting for a number, or None, and the next number for which a step leads elsewhere."""
    both = []
    following = []
    for loop in (one, other):
        steps, starts = near_steps([loop], n, floor)
        both.append(outcomes(loop, floor, steps, starts))
        following.append(next_turn(loop, n, steps))
    if both[0] != both[1]:
        return Parting(n, tuple(both)), n
    return None, min(following)


def alike(one, other):
    """Tell whether two loops of one power have the same outcomes for all numbers."""
    return parting(one, other) is None


def slower(one, other):
    """Return the least number and start for which the first loop runs longer than the other, or None."""
    if (one.k, one.a, one.c, one.d) != (other.k, other.a, other.c, other.d):
        raise UnlikeSteps()
    # The wider window holds the other one, and tells of both loops.
    return search(one.k, max(table(one)[0], table(other)[0]), lambda n, floor: slower_at(one, other, n, floor))


def slower_at(one, other, n, floor):
    """Return number and start if the first loop runs longer, or None, and the next number to look at."""
    steps, starts = near_steps([one, other], n, floor)
    for start in starts:
        course = walk(one, floor, lambda x: steps[x], start)
        if is_longer(course, walk(other, floor, lambda x: steps[x], start)):
            return (n, start), n
    return None, next_turn(one, n, steps)


def is_longer(course, beside):
    """Tell whether a run is longer than another one; an endless run is, unless the other one is endless, too."""
    if beside.end != "told":
        return False
    return course.end != "told" or len(course.guesses) > len(beside.guesses)
