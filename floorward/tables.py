"""Tables: where the steps from the last gaps lead, for all roots from some root on."""

from floorward.averages import outcomes, reach_of
from floorward.numbers import is_int, never_below_from, poly_difference, poly_minus, poly_product, poly_shift
from floorward.numbers import trimmed
from floorward.parts import is_row


def gap_step(loop, gap, quotient):
    """Return the gap to which the step from a gap leads with a quotient, the q of the document."""
    return ((loop.a - loop.c * (loop.k - 1)) * gap + loop.c * quotient + loop.d) // (loop.a + loop.c)


def least_quotient(loop, gap, aim):
    """Return the least quotient with which the step from a gap leads to the gap that is aimed at, or above it."""
    return -(((loop.a - loop.c * (loop.k - 1)) * gap + loop.d - (loop.a + loop.c) * aim) // loop.c)


def root_power(k):
    """Return the polynomial that is the k-th power of the root."""
    return (0,) * k + (1,)


def end_of_rests(k):
    """Return the polynomial of the least number that is too great for a rest."""
    return poly_difference(root_power(k))


def cut_of(k, gap, quotient):
    """Return the polynomial of the least rest with which the quotient at a gap is at least the given one."""
    bound = poly_product(poly_shift(root_power(k - 1), gap), (quotient - (k - 1) * gap, 1))
    return poly_minus(bound, root_power(k))


def window(loop):
    """Return the least and the greatest gap of the window."""
    high = 1 + max(0, loop.d + reach_of(loop) * (loop.a + loop.c)) // (loop.c * loop.k)
    low = 0
    # A lesser gap leads to no greater one, so the gaps that come of 0 only fall, or 0 is the least of them.
    while gap_step(loop, low, 0) < low:
        low = gap_step(loop, low, 0)
    return low, high


def far_order(poly, k):
    """Return a tuple by which polynomials of at most k + 1 coefficients stand as their values do from some root on."""
    return tuple(reversed(list(poly) + [0] * (k + 1 - len(poly))))


def far_cut(k, gap, quotient):
    """Return the far order of a cut."""
    return far_order(cut_of(k, gap, quotient), k)


def far_cuts(loop, gaps):
    """Return the far orders, ascending, of the cuts at which some step from the gaps comes to lead elsewhere."""
    # A cut of a quotient beyond k is behind the end from some root on, one of a quotient up to 0 is never above 0.
    turns = [(gap, quotient) for gap in gaps for quotient in range(1, loop.k + 1)
             if gap_step(loop, gap, quotient) != gap_step(loop, gap, quotient - 1)]
    end = far_order(end_of_rests(loop.k), loop.k)
    return sorted({far_cut(loop.k, gap, quotient) for gap, quotient in turns
                   if far_cut(loop.k, gap, quotient) < end})


def far_map(loop, gaps, begin):
    """Return where the steps from the gaps lead in the stretch that begins with a cut, told by its far order."""
    found = []
    for gap in gaps:
        reached = [quotient for quotient in range(1, loop.k + 1) if far_cut(loop.k, gap, quotient) <= begin]
        found.append(gap_step(loop, gap, len(reached)))
    return tuple(found)


def table(loop):
    """Return the table of a loop."""
    low, high = window(loop)
    gaps = list(range(low, high + 1))
    far = far_cuts(loop, gaps)
    maps = tuple([far_map(loop, gaps, begin) for begin in [far_order((), loop.k)] + far])
    cuts = tuple([trimmed(tuple(reversed(order))) for order in far])
    return sound_from(loop, low, high, cuts, maps), low, high, cuts, maps


# In what follows the window, cuts and maps are of the form of a table, and it is asked from which root on they hold.
# Each demand is a polynomial that must not be below 0.


def sound_from(loop, low, high, cuts, maps):
    """Return the least root from which on everything holds that a table must meet, or None."""
    bounds = [()] + list(cuts) + [end_of_rests(loop.k)]
    demands = order_demands(bounds) + [falling_demand(loop, high)]
    for gap in range(low, high + 1):
        demands += gap_demands(loop, gap, bounds, [leads[gap - low] for leads in maps])
    first = 1 - low
    for demand in demands:
        first = never_below_from(demand, first)
        if first is None:
            return None
    return first


def order_demands(bounds):
    """Return the demands that the bounds of the stretches ascend."""
    return [poly_minus(poly_minus(after, before), (1,)) for before, after in zip(bounds, bounds[1:])]


def falling_demand(loop, high):
    """Return the demand that the steps from all gaps above the window fall by more than the stop allows."""
    # For one root this bound rises from gap to gap where it is above 0: if the next gap meets it, all further ones do.
    gap = high + 1
    least = least_quotient(loop, gap, gap - reach_of(loop))
    return poly_minus(cut_of(loop.k, gap, least), end_of_rests(loop.k))


def gap_demands(loop, gap, bounds, aims):
    """Return the demands that the step from a gap leads, stretch by stretch, to the gaps that are aimed at."""
    demands = []
    for at, aim in enumerate(aims):
        # Inside a row of stretches with one aim the order of the bounds is enough.
        if at == 0 or aims[at - 1] != aim:
            demands.append(poly_minus(bounds[at], cut_of(loop.k, gap, least_quotient(loop, gap, aim))))
        if at + 1 == len(aims) or aims[at + 1] != aim:
            behind = cut_of(loop.k, gap, least_quotient(loop, gap, aim + 1))
            demands.append(poly_minus(behind, bounds[at + 1]))
    return demands


def is_row_of_integers(thing):
    """Tell of any object whether it is a list or a tuple of integers."""
    return is_row(thing) and all([is_int(member) for member in thing])


def is_row_of_rows(thing):
    """Tell of any object whether it is a list or a tuple of such lists or tuples."""
    return is_row(thing) and all([is_row_of_integers(member) for member in thing])


def has_table_form(thing):
    """Tell of any object whether it is made of the things of which a table is made."""
    return (is_row(thing) and len(thing) == 5 and all([is_int(member) for member in thing[:3]])
            and is_row_of_rows(thing[3]) and is_row_of_rows(thing[4]))


def fits_window(low, high, cuts, maps):
    """Tell whether each stretch has a map, and each map leads from the gaps of the window to such gaps."""
    return (low <= 0 and high >= 1 and len(maps) == len(cuts) + 1
            and all([len(leads) == high - low + 1 for leads in maps])
            and all([low <= aim <= high for leads in maps for aim in leads]))


def is_table(loop, thing):
    """Tell of any object whether it is a table of the loop."""
    if not has_table_form(thing):
        return False
    first, low, high, cuts, maps = thing
    if not fits_window(low, high, cuts, maps):
        return False
    least = sound_from(loop, low, high, cuts, maps)
    return least is not None and first >= least


def stretches(loop):
    """Return the first rest, the number behind the last one, and the outcomes by gaps, for each stretch of rests."""
    first, low, high, cuts, maps = table(loop)
    bounds = [()] + list(cuts) + [end_of_rests(loop.k)]
    return [(bounds[at], bounds[at + 1], gap_outcomes(loop, first, low, high, leads))
            for at, leads in enumerate(maps)]


def gap_outcomes(loop, first, low, high, leads):
    """Return the outcomes of the starts of the window: the gaps of the numbers told, ascending, then "swings"."""
    # The root `first` stands for all greater ones: its guesses, too, are from 1 on, so none ends as nought.
    steps = {first + low + at: first + aim for at, aim in enumerate(leads)}
    found = outcomes(loop, first, steps, list(range(first, first + high + 1)))
    return tuple([outcome if outcome == "swings" else outcome - first for outcome in found])
