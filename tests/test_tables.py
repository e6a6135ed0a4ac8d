"""Promises [17] to [21], the examples of [37] and [38]: floorward/tables.py."""

import unittest
from unittest import mock

from floorward.averages import Average, tells
from floorward.numbers import poly_value
from floorward.tables import is_table, stretches, table
from tests.plain import all_steps, plain_step, plain_tells, plain_window, some_loops

KNOWN = Average(2, 1, 1, 0, "notless")
KNOWN_TABLE = (1, 0, 1, ((0, 2),), ((0, 0), (1, 0)))
FALLS = {"near1": 1, "near2": 2}
# One stop for each number by which a step may fall.
STOPS = ("equal", "near1", "near2")


def step_loops(every=1):
    return [Average(*step, stop) for step in all_steps() for stop in STOPS][::every]


def as_lists(thing):
    return [as_lists(part) for part in thing] if isinstance(thing, tuple) else thing


def bounds_at(thing, k, r):
    """The first rest of each stretch for the root r, then the end."""
    return [0] + [poly_value(cut, r) for cut in thing[3]] + [(r + 1) ** k - r ** k]


def holds_at(loop, thing, r, beyond=25):
    """Whether all that [19] asks for holds for the root r: the steps are made, one by one."""
    _, low, high, _, maps = thing
    bounds = bounds_at(thing, loop.k, r)
    if r + low < 1 or any(begin >= end for begin, end in zip(bounds, bounds[1:])):
        return False
    for leads, begin, end in zip(maps, bounds, bounds[1:]):
        for n in (r ** loop.k + begin, r ** loop.k + end - 1):
            led = [plain_step(loop, n, r + gap) - r for gap in range(low, high + 1 + beyond)]
            if tuple(led[:high - low + 1]) != tuple(leads) or not low <= min(leads) <= max(leads) <= high:
                return False
            if any(high + 1 + at - to <= FALLS.get(loop.stop, 0) for at, to in enumerate(led[high - low + 1:])):
                return False
    return True


class TableTest(unittest.TestCase):
    def test_known_tables_by_place_and_by_name(self):
        self.assertEqual(table(KNOWN), KNOWN_TABLE)
        self.assertEqual(table(loop=Average(3, 2, 1, 0, "equal"))[1:], (0, 1, ((0, 0, 3),), ((0, 0), (1, 0))))
        self.assertEqual(table(Average(2, 1, 1, 1, "notless"))[1:], (0, 1, ((0, 1),), ((0, 0), (1, 1))))
        self.assertEqual(table(Average(2, 1, 1, -1, "back"))[1:],
                         (-1, 1, ((-2, 1), (0, 1)), ((-1, -1, -1), (0, -1, -1), (0, 0, 0))))

    def test_tables_are_made_of_tuples_and_integers(self):
        for loop in step_loops():
            first, low, high, cuts, maps = made = table(loop)
            self.assertIs(tuple, type(made))
            self.assertTrue(all(type(part) is int for part in (first, low, high)))
            for row in (cuts, maps):
                self.assertIs(tuple, type(row))
                self.assertTrue(all(type(part) is tuple for part in row))
                self.assertTrue(all(type(part) is int for inner in row for part in inner))

    def test_windows_and_sizes(self):
        for loop in step_loops():
            first, low, high, cuts, maps = table(loop)
            self.assertEqual((low, high), plain_window(loop), loop.text())
            self.assertTrue(1 - low <= first <= 300, loop.text())
            self.assertEqual(len(maps), len(cuts) + 1)
            self.assertTrue(all(one != other for one, other in zip(maps, maps[1:])), loop.text())
            self.assertTrue(all(cut and cut[-1] != 0 for cut in cuts), loop.text())

    def test_the_steps_are_those_of_the_maps_from_the_first_root_on(self):
        for loop in step_loops():
            made = table(loop)
            for r in (*range(made[0], made[0] + 6), 2 * made[0] + 30, 10 ** 6, 10 ** 40):
                self.assertTrue(holds_at(loop, made, r), (loop.text(), r))

    def test_told_and_mend_do_not_matter_and_equal_loops_have_equal_tables(self):
        for loop in step_loops(7):
            parts = (loop.k, loop.a, loop.c, loop.d, loop.stop)
            self.assertEqual(table(Average(*parts, "more", "both")), table(loop))
        for stop in ("notless", "back", "under", "held"):
            self.assertEqual(table(Average(4, 4, 1, 3, stop)), table(Average(4, 4, 1, 3, "equal")))


class IsTableTest(unittest.TestCase):
    def test_tables_by_place_and_by_name(self):
        for loop in step_loops():
            made = table(loop)
            self.assertIs(is_table(loop, made), True)
            self.assertIs(is_table(thing=as_lists(made), loop=loop), True)
            for first in (made[0] + 1, made[0] + 50, 10 ** 30000):
                self.assertIs(is_table(loop, (first,) + made[1:]), True)
                self.assertIs(is_table(loop, [first] + as_lists(made[1:])), True)

    def test_nothing_is_changed(self):
        thing = as_lists(KNOWN_TABLE)
        is_table(KNOWN, thing)
        self.assertEqual(thing, as_lists(KNOWN_TABLE))

    def test_a_first_root_is_enough_exactly_if_all_holds_from_it_on(self):
        for loop in step_loops():
            made = table(loop)
            good = True
            for first in range(made[0] - 1, -3, -1):
                good = good and holds_at(loop, made, first)
                self.assertIs(is_table(loop, (first,) + made[1:]), good, (loop.text(), first))

    def test_a_gap_that_is_changed(self):
        for loop in step_loops(5):
            first, low, high, cuts, maps = table(loop)
            for at, leads in enumerate(maps):
                for gap, aim in enumerate(leads):
                    for other in (aim - 1, aim + 1, aim + 10 ** 30, True):
                        wrong = leads[:gap] + (other,) + leads[gap + 1:]
                        thing = (first, low, high, cuts, maps[:at] + (wrong,) + maps[at + 1:])
                        self.assertIs(is_table(loop, thing), False, (loop.text(), thing))

    def test_a_cut_that_is_moved(self):
        for loop in step_loops(5):
            first, low, high, cuts, maps = table(loop)
            for at, cut in enumerate(cuts):
                for place in range(loop.k + 2):
                    for by in (-1, 1):
                        moved = list(cut) + [0] * (loop.k + 2 - len(cut))
                        moved[place] += by
                        thing = (10 ** 9, low, high, cuts[:at] + (tuple(moved),) + cuts[at + 1:], maps)
                        self.assertIs(is_table(loop, thing), False, (loop.text(), thing))

    def test_a_cut_that_touches_only_at_the_first_root(self):
        # 2 r and r + 5 are the same at 5 and nowhere behind it.
        self.assertIs(is_table(KNOWN, (5, 0, 1, ((5, 1),), ((0, 0), (1, 0)))), False)
        # A cut that stands beside the others ever after, but not at first.
        beside = (1, 0, 1, ((-9, 1), (0, 2)), ((0, 0), (0, 0), (1, 0)))
        self.assertIs(is_table(KNOWN, beside), False)
        self.assertIs(is_table(KNOWN, (9,) + beside[1:]), False)
        self.assertIs(is_table(KNOWN, (10,) + beside[1:]), True)

    def test_what_is_left_out(self):
        for loop in step_loops(3):
            first, low, high, cuts, maps = table(loop)
            for at in range(len(cuts)):
                fewer = cuts[:at] + cuts[at + 1:]
                self.assertIs(is_table(loop, (first, low, high, fewer, maps)), False)
                self.assertIs(is_table(loop, (first, low, high, cuts, maps[:at] + maps[at + 1:])), False)
                for gone in (at, at + 1):
                    thing = (first, low, high, fewer, maps[:gone] + maps[gone + 1:])
                    self.assertIs(is_table(loop, thing), False, (loop.text(), thing))

    def test_cuts_in_another_order(self):
        for loop in step_loops():
            first, low, high, cuts, maps = table(loop)
            if len(cuts) > 1:
                self.assertIs(is_table(loop, (first, low, high, cuts[::-1], maps)), False)
                self.assertIs(is_table(loop, (first, low, high, cuts[::-1], maps[::-1])), False)

    def test_neighbours_with_equal_maps(self):
        maps = ((0, 0), (0, 0), (1, 0), (1, 0))
        self.assertIs(is_table(KNOWN, (4, 0, 1, ((-3, 1), (0, 2), (0, 2, 0)), maps)), False)
        self.assertIs(is_table(KNOWN, (4, 0, 1, ((-3, 1), (-1, 2), (0, 2)), (maps[0],) + maps[:3])), True)
        self.assertIs(is_table(KNOWN, (3, 0, 1, ((-3, 1), (-1, 2), (0, 2)), (maps[0],) + maps[:3])), False)
        self.assertIs(is_table(KNOWN, (1, 0, 1, ((0, 2), (1, 2)), ((0, 0), (1, 0), (1, 0)))), False)

    def test_cuts_of_great_degree_and_of_many_figures(self):
        great = 10 ** 30 - 1
        maps = ((0, 0), (0, 0), (1, 0))
        self.assertIs(is_table(KNOWN, (great + 1, 0, 1, ((-great, 1), (0, 2)), maps)), True)
        self.assertIs(is_table(KNOWN, (great, 0, 1, ((-great, 1), (0, 2)), maps)), False)
        for cut in ((0, 0, 0, 0, 0, 1), (great,) * 6, (-great,) * 6, (great, -great, great, -great, great, -great)):
            self.assertIs(is_table(KNOWN, (10 ** 40, 0, 1, (cut, (0, 2)), maps)), False)

    def test_polynomials_may_end_in_noughts(self):
        self.assertIs(is_table(KNOWN, (1, 0, 1, [[0, 2, 0, 0, 0, 0]], [[0, 0], [1, 0]])), True)

    def test_any_window_that_holds(self):
        lower = (3, -1, 1, ((-3, 2), (0, 2)), ((0, 0, 0), (1, 0, 0), (1, 1, 0)))
        self.assertIs(is_table(KNOWN, lower), True)
        # For the number 8 the step from 1 leads to 4.
        self.assertIs(is_table(KNOWN, (2,) + lower[1:]), False)
        self.assertIs(is_table(KNOWN, lower[:3] + (((-4, 2), (0, 2)),) + lower[4:]), False)
        self.assertIs(is_table(KNOWN, lower[:4] + (((0, 0, 0), (0, 1, 0), (1, 1, 0)),)), False)
        self.assertIs(is_table(KNOWN, (1, 0, 2, ((0, 2),), ((0, 0, 0), (1, 0, 1)))), True)

    def test_a_window_that_is_too_narrow(self):
        for loop in step_loops():
            first, low, high, cuts, maps = table(loop)
            narrow = (10 ** 9, low, high - 1, cuts, tuple(leads[:-1] for leads in maps))
            if high > 1:
                self.assertIs(is_table(loop, narrow), holds_at(loop, narrow, 10 ** 9), loop.text())
            narrow = (10 ** 9, low + 1, high, cuts, tuple(leads[1:] for leads in maps))
            self.assertIs(is_table(loop, narrow), False, loop.text())

    def test_the_gaps_0_and_1_are_in_each_window(self):
        # All that is asked of the steps would hold: they stay in these windows, and fall above them.
        up = Average(2, 1, 1, 2, "notless")
        _, low, high, cuts, maps = table(up)
        self.assertEqual((low, min(min(leads) for leads in maps)), (0, 1))
        self.assertIs(is_table(up, (10 ** 9, 1, high, cuts, tuple(leads[1:] for leads in maps))), False)
        down = Average(2, 1, 1, -1, "notless")
        _, low, high, cuts, maps = table(down)
        self.assertEqual((low, high, max(max(leads) for leads in maps)), (-1, 1, 0))
        self.assertIs(is_table(down, (10 ** 9, -1, 0, cuts, tuple(leads[:-1] for leads in maps))), False)
        self.assertIs(is_table(KNOWN, (1, 0, 0, ((0, 2),), ((0,), (1,)))), False)
        self.assertIs(is_table(KNOWN, (1, 1, 1, (), ((0,),))), False)

    def test_the_stop_says_how_far_the_steps_must_fall(self):
        near = Average(2, 1, 1, 0, "near1")
        self.assertIs(is_table(near, KNOWN_TABLE), False)
        self.assertIs(is_table(KNOWN, table(near)), True)
        self.assertIs(is_table(Average(2, 1, 1, 0, "held"), KNOWN_TABLE), True)

    def test_tables_of_other_loops(self):
        loops = step_loops(6)
        for loop in loops[::5]:
            for other in loops:
                thing = (10 ** 9,) + table(other)[1:]
                self.assertIs(is_table(loop, thing), holds_at(loop, thing, 10 ** 9), (loop.text(), other.text()))

    def test_other_objects(self):
        for thing in (None, True, 0, 7, "", "table", b"table", {}, object(), mock.ANY, int, KNOWN, (), [], set(),
                      KNOWN_TABLE[:4], KNOWN_TABLE + (0,), {"first": 1}, iter(KNOWN_TABLE), "12345"):
            self.assertIs(is_table(KNOWN, thing), False, thing)

    def test_other_objects_in_its_places(self):
        for at in range(5):
            for other in (None, True, False, 1.0, "1", b"1", (), [], (1,), {}, set(), object(), mock.ANY, (None,),
                          ((None,),), ("01",), ((0, 2.0),), ((0, True),), ((0, mock.ANY),), ([0, 0], [True, False])):
                thing = KNOWN_TABLE[:at] + (other,) + KNOWN_TABLE[at + 1:]
                self.assertIs(is_table(KNOWN, thing), False, thing)

    def test_what_contains_itself(self):
        loop_of_lists = [1, 0, 1, [], []]
        loop_of_lists[3].append(loop_of_lists[3])
        loop_of_lists[4].append(loop_of_lists)
        self.assertIs(is_table(KNOWN, loop_of_lists), False)


class StretchesTest(unittest.TestCase):
    def test_the_examples(self):
        self.assertEqual(stretches(KNOWN), [((), (0, 2), (0,)), ((0, 2), (1, 2), (0,))])
        swinging = Average(2, 1, 1, 0, "equal")
        self.assertEqual(stretches(loop=swinging), [((), (0, 2), (0,)), ((0, 2), (1, 2), ("swings",))])
        cubic = Average(3, 2, 1, 0, "equal")
        self.assertEqual(stretches(cubic), [((), (0, 0, 3), (0,)), ((0, 0, 3), (1, 3, 3), ("swings",))])
        less = Average(3, 2, 1, 0, "back", "less")
        self.assertEqual(stretches(less), [((), (0, 0, 3), (0,)), ((0, 0, 3), (1, 3, 3), (0,))])
        up = Average(2, 1, 1, 1, "notless")
        self.assertEqual(stretches(up), [((), (0, 1), (0,)), ((0, 1), (1, 2), (0, 1))])
        both = Average(4, 3, 1, -1, "held")
        self.assertEqual(stretches(both)[0], ((), (-4, 11, -9, 1), (0, "swings")))

    def test_they_are_the_stretches_of_the_table(self):
        for loop in some_loops(29):
            made, parts = table(loop), stretches(loop)
            self.assertIs(type(parts), list)
            self.assertEqual([begin for begin, _, _ in parts], [()] + list(made[3]))
            ends = {2: (1, 2), 3: (1, 3, 3), 4: (1, 4, 6, 4)}
            self.assertEqual([stop for _, stop, _ in parts], list(made[3]) + [ends[loop.k]])
            for part in parts:
                self.assertEqual([type(thing) for thing in part], [tuple] * 3)

    def test_each_call_returns_a_new_list(self):
        parts = stretches(KNOWN)
        parts.append(None)
        self.assertEqual(len(stretches(KNOWN)), 2)

    def test_the_outcomes_are_those_of_the_roots(self):
        for loop in some_loops(23):
            first, _, high, _, _ = table(loop)
            for r in (first, first + 1, 3 * first + 40, 10 ** 12):
                for begin, stop, outcomes in stretches(loop):
                    for s in {poly_value(begin, r), poly_value(stop, r) - 1}:
                        n = r ** loop.k + s
                        told = tells(loop, n)
                        self.assertEqual(outcomes, tuple(out if out == "swings" else out - r for out in told))
                        self.assertEqual(told, plain_tells(loop, n, range(r, r + high + 4)), (loop.text(), n))


if __name__ == "__main__":
    unittest.main()
