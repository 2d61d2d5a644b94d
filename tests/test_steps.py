"""The functions steps and check_order: point [20]."""

import random

from passplaces.crossings import Crossing, LoggedCrossing, check_order, steps
from passplaces.errors import InvalidOrder
from passplaces.plans import Plan
from passplaces.ways import Way
from tests.helpers import Case, many_parts, nested, not_numbers, other_kinds
from tests.slow import all_ways, pairs_of, random_way, slow_least, slow_plans, small_ways
from tests.slow_walks import random_cells, random_order, slow_order_fault, slow_orders, walked


def wrong_items():
    """Values that are not pairs of walkers of a way with two right and three left walkers."""
    found = other_kinds() + [0, 1, 10 ** 998, [0, 0], (0,), (0, 0, 0), ((0, 0),), "00", (many_parts(), many_parts())]
    found = [value for value in found if value != (0, 0) or isinstance(value, list)]
    found += [(value, 0) for value in not_numbers(0, 1)] + [(0, value) for value in not_numbers(0, 2)]
    return found


class StepsTest(Case):
    def check(self, plan, order, found):
        """The steps must be possible, end the crossing, and meet as the plan and the order say."""
        for step in found:
            self.assertIs(type(step), tuple)
        crossing = Crossing(plan.way)
        crossing.run(*found)
        self.assertIs(crossing.is_over, True)
        self.assertEqual(crossing.cells, plan.cells)
        self.assertEqual(crossing.plan(), plan)
        walk = walked(plan.way, found)
        self.assertEqual((walk.cells, walk.is_over), (plan.cells, True))
        meetings = tuple(step[1:] for step in found if step[0] == "meet")
        if order is None:
            self.assertEqual(slow_order_fault(plan.way, meetings), -1)
        else:
            self.assertEqual(meetings, order)
        # Nothing is left to do or done twice.
        spots = 2 * plan.way.places * (plan.way.rights + plan.way.lefts)
        self.assertEqual(len(found), spots + plan.way.rights * plan.way.lefts)

    def test_all_plans_and_orders_of_small_ways(self):
        for size in [(1, 1, 3), (1, 2, 3), (2, 1, 3), (2, 2, 3), (1, 4, 3), (4, 1, 3), (2, 3, 3), (3, 2, 3), (3, 3, 3)]:
            way = Way(*size)
            for cells in slow_plans(way):
                plan = Plan(way, cells)
                self.check(plan, None, list(steps(plan)))
                for order in slow_orders(way):
                    self.check(plan, order, list(steps(plan, order=order)))

    def test_all_ways_of_a_size(self):
        for way in all_ways(2, 2, 2):
            for cells in slow_plans(way):
                for order in slow_orders(way):
                    self.check(Plan(way, cells), order, list(steps(Plan(way, cells), order=order)))

    def test_drawn_plans_of_small_ways(self):
        chance = random.Random(61)
        for way in small_ways(chance, 150, 5000):
            for cells in slow_plans(way)[:4]:
                plan, order = Plan(way, cells), random_order(chance, way)
                self.check(plan, None, list(steps(plan, order=None)))
                self.check(plan, order, list(steps(plan, order=order)))

    def test_drawn_plans_of_greatest_ways(self):
        chance = random.Random(62)
        ways = [Way(6, 6, 12), Way(6, 6, 6), Way(1, 6, 12), Way(6, 1, 12), Way(5, 6, 9)]
        while len(ways) < 15:
            way = random_way(chance, 6, 6, 12, chance.randint(6, 9))
            if slow_least(way) is not None:
                ways.append(way)
        for way in ways:
            for cells in [slow_least(way), random_cells(chance, way, slow_least(way)), Plan.rightmost(way).cells]:
                plan, order = Plan(way, cells), random_order(chance, way)
                self.check(plan, None, list(steps(plan)))
                self.check(plan, order, list(steps(order=order, plan=plan)))

    def test_seen_from_the_other_side(self):
        chance = random.Random(63)
        for way in small_ways(chance, 60, 2000):
            for cells in slow_plans(way.mirrored())[:3]:
                self.check(Plan(way.mirrored(), cells), None, list(steps(Plan(way.mirrored(), cells))))

    def test_closed_ways(self):
        # A plan of a closed way is a plan of the way, with the same orders.
        chance = random.Random(64)
        way = Way(3, 3, 6)
        closed = way.closing(1, right=1).closing(2, left=0)
        for order in slow_orders(way)[::5]:
            cells = random_cells(chance, closed, slow_least(closed))
            self.check(Plan(closed, cells), order, list(steps(Plan(closed, cells), order=order)))
            self.check(Plan(way, cells), order, list(steps(Plan(way, cells), order=order)))

    def test_two_runs_at_the_same_time(self):
        plan = Plan.leftmost(Way(3, 3, 4))
        alone = list(steps(plan))
        self.assertEqual(list(zip(steps(plan), steps(plan))), list(zip(alone, alone)))

    def test_stopped_early(self):
        plan = Plan.leftmost(Way(2, 2, 2))
        run = steps(plan)
        next(run)
        run.close()
        self.check(plan, None, list(steps(plan)))

    def test_steps_can_be_undone(self):
        plan = Plan.rightmost(Way(3, 2, 4))
        crossing = LoggedCrossing(plan.way)
        crossing.run(*steps(plan))
        self.assertEqual(crossing.log, tuple(steps(plan)))
        for _ in list(steps(plan)):
            crossing.undo()
        self.assertEqual((crossing.spots, crossing.log), (Crossing(plan.way).spots, ()))

    def test_plan_and_order_stay_as_they_are(self):
        way = Way(2, 2, 3)
        plan, order = Plan.rightmost(way), ((0, 0), (1, 0), (0, 1), (1, 1))
        cells = plan.cells
        list(steps(plan, order=order))
        self.assertEqual((plan.cells, plan.way, order), (cells, way, ((0, 0), (1, 0), (0, 1), (1, 1))))

    def test_order_must_be_named(self):
        plan = Plan.leftmost(Way(1, 1, 1))
        with self.assertRaises(TypeError):
            list(steps(plan, ((0, 0),)))


class OrderTest(Case):
    def check_wrong(self, way, order):
        """The exception of a value, by check_order and before the first step of steps."""
        expected = slow_order_fault(way, order)
        self.assertNotEqual(expected, -1)
        self.assertEqual(self.failure(InvalidOrder, check_order, way, order).index, expected)
        if order is not None:
            plan = Plan.leftmost(way)
            self.assertEqual(self.failure(InvalidOrder, lambda: next(steps(plan, order=order))).index, expected)

    def check(self, way, order):
        if slow_order_fault(way, order) == -1:
            self.assertIsNone(check_order(way, order))
        else:
            self.check_wrong(way, order)

    def test_orders(self):
        chance = random.Random(65)
        for m in range(1, 7):
            for n in range(1, 7):
                way = Way(m, n, 12)
                for _ in range(5):
                    self.assertIsNone(check_order(way, random_order(chance, way)))
                self.assertIsNone(check_order(way=way, order=tuple(pairs_of(way))))

    def test_all_orders_of_small_ways(self):
        for m, n in [(1, 1), (1, 5), (5, 1), (2, 3), (3, 2), (3, 3)]:
            for order in slow_orders(Way(m, n, 1)):
                self.assertIsNone(check_order(order=order, way=Way(m, n, 1)))

    def test_all_tuples_of_pairs(self):
        way = Way(2, 2, 2)
        pairs = pairs_of(way)
        for one in pairs:
            for two in pairs:
                for three in pairs:
                    for four in pairs:
                        self.check(way, (one, two, three, four))

    def test_changed_orders(self):
        chance = random.Random(66)
        for _ in range(300):
            way = Way(chance.randint(1, 6), chance.randint(1, 6), 12)
            order = list(random_order(chance, way))
            at, other = chance.randrange(len(order)), chance.randrange(len(order))
            exchanged, repeated, replaced = order[:], order[:], order[:]
            exchanged[at], exchanged[other] = exchanged[other], exchanged[at]
            repeated[at] = repeated[other]
            replaced[at] = (chance.randint(-1, way.rights), chance.randint(-1, way.lefts))
            for changed in [exchanged, repeated, replaced, order[:at] + order[at + 1:], order[:at] + order[at:at + 1]]:
                self.check(way, tuple(changed))
            self.check_wrong(way, tuple(order + [order[at]]))
            self.check_wrong(way, tuple(order[:-1]))
            self.check_wrong(way, order)

    def test_the_first_index_counts(self):
        way = Way(2, 2, 2)
        for order, index in [
            (((0, 0), (0, 1), (1, 0), (1, 1)), None),
            (((0, 1), (0, 0), (1, 0), (1, 1)), 0),
            (((1, 0), (0, 0), (0, 1), (1, 1)), 0),
            (((0, 0), (1, 1), (0, 1), (1, 0)), 1),
            (((0, 0), (0, 0), (1, 0), (1, 1)), 1),
            (((0, 0), (0, 1), (1, 1), (1, 0)), 2),
            (((0, 0), (1, 0), (1, 1), (0, 1)), 2),
            (((0, 0), (0, 1), (1, 0), (0, 1)), 3),
            (((0, 0), (0, 1), (1, 0), (1, 2)), 3),
            (((0, 0), (0, 1), (1, 0), None), 3),
            ((None, (0, 5), (1, 1), (0, 0)), 0),
            (((0, 0), [0, 1], (1, 1), None), 1),
        ]:
            if index is None:
                self.assertIsNone(check_order(way, order))
            else:
                self.assertEqual(self.failure(InvalidOrder, check_order, way, order).index, index)

    def test_the_number_of_items_comes_first(self):
        way = Way(2, 2, 2)
        for order in [(), (None,), (None,) * 3, (None,) * 5, ((0, 0),) * 10000, (many_parts(),) * 10000, many_parts()]:
            self.assertIsNone(self.failure(InvalidOrder, check_order, way, order).index)

    def test_any_value(self):
        for way in [Way(2, 3, 2), Way(1, 1, 1), Way(1, 2, 1), Way(6, 6, 12)]:
            for value in other_kinds() + [0, 1, -1, 10 ** 998, list(pairs_of(way)), nested(lambda x: (x, x), 60)]:
                if not (isinstance(value, tuple) and slow_order_fault(way, value) == -1):
                    self.check_wrong(way, value)

    def test_any_item(self):
        way = Way(2, 3, 2)
        order = ((0, 0), (1, 0), (0, 1), (0, 2), (1, 1), (1, 2))
        self.assertIsNone(check_order(way, order))
        for index in range(6):
            for value in wrong_items():
                changed = order[:index] + (value,) + order[index + 1:]
                self.assertEqual(self.failure(InvalidOrder, check_order, way, changed).index, index)
                error = self.failure(InvalidOrder, lambda: next(steps(Plan.leftmost(way), order=changed)))
                self.assertEqual(error.index, index)

    def test_true_is_not_a_number(self):
        way = Way(2, 2, 2)
        order = ((0, 0), (0, 1), (1, 0), (1, 1))
        for index, item in [(0, (False, 0)), (0, (0, False)), (1, (0, True)), (2, (True, 0)), (3, (1, True))]:
            changed = order[:index] + (item,) + order[index + 1:]
            self.assertEqual(self.failure(InvalidOrder, check_order, way, changed).index, index)

    def test_none(self):
        way = Way(1, 1, 1)
        self.assertIsNone(self.failure(InvalidOrder, check_order, way, None).index)
        self.assertEqual(list(steps(Plan.leftmost(way), order=None)), list(steps(Plan.leftmost(way))))

    def test_lists_stay_as_they_are(self):
        order = [(0, 0)]
        self.failure(InvalidOrder, check_order, Way(1, 1, 1), order)
        self.assertEqual(order, [(0, 0)])
