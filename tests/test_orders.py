"""Module passplaces.orders: points [20] and [35]."""

import random
from itertools import islice, permutations
from math import factorial

from passplaces.crossings import Crossing, check_order, steps
from passplaces.errors import InvalidNumber, InvalidOrder
from passplaces.orders import count_orders, order_by_rank, orders, rank_of_order
from passplaces.plans import Plan
from passplaces.ways import Way
from tests.helpers import Case, many_parts, nested, not_numbers, other_kinds
from tests.slow import pairs_of, random_way
from tests.slow_walks import random_order, slow_order_fault, slow_orders

SIZES = [(m, n) for m in range(1, 7) for n in range(1, 7)]
SMALL = [(m, n) for m, n in SIZES if m * n <= 9 or min(m, n) == 2]


def formula(m, n):
    """The number of orders of [35]."""
    product = 1
    for i in range(m):
        for j in range(n):
            product *= m - i + n - j - 1
    assert factorial(m * n) % product == 0
    return factorial(m * n) // product


class SmallWaysTest(Case):
    def test_slow_orders(self):
        # The slow list itself, by all permutations of the pairs.
        for way in [Way(1, 1, 1), Way(1, 4, 1), Way(4, 1, 1), Way(2, 2, 1), Way(2, 3, 1), Way(3, 2, 1)]:
            expected = [order for order in permutations(pairs_of(way)) if slow_order_fault(way, order) == -1]
            self.assertEqual(slow_orders(way), expected)

    def test_all_orders(self):
        for m, n in SMALL:
            way = Way(m, n, 3)
            expected = slow_orders(way)
            self.assertEqual(count_orders(way), len(expected))
            self.assertEqual(list(orders(way)), expected)
            for rank, order in enumerate(expected):
                self.assertEqual(order_by_rank(way, rank), order)
                self.assertEqual(rank_of_order(way, order), rank)

    def test_kinds(self):
        way = Way(2, 2, 2)
        for order in [order_by_rank(way, 1), *orders(way), *orders(way, start=1)]:
            self.assertIs(type(order), tuple)
            for pair in order:
                self.assertEqual([type(pair), type(pair[0]), type(pair[1])], [tuple, int, int])

    def test_from_each_number(self):
        for m, n in [(1, 1), (1, 6), (6, 1), (2, 3), (3, 2), (2, 4), (3, 3)]:
            way = Way(m, n, 1)
            expected = slow_orders(way)
            for start in range(len(expected) + 1):
                self.assertEqual(list(orders(way, start=start)), expected[start:])

    def test_by_name(self):
        way = Way(2, 3, 4)
        expected = slow_orders(way)
        self.assertEqual(count_orders(way=way), 5)
        self.assertEqual(order_by_rank(rank=3, way=way), expected[3])
        self.assertEqual(rank_of_order(order=expected[3], way=way), 3)
        self.assertEqual(list(orders(start=3, way=way)), expected[3:])
        with self.assertRaises(TypeError):
            list(orders(way, 3))


class CountTest(Case):
    def test_formula(self):
        for m, n in SIZES:
            self.assertEqual(count_orders(Way(m, n, 1)), formula(m, n))
            self.assertIs(type(count_orders(Way(m, n, 1))), int)

    def test_known_numbers(self):
        known = [(1, 6, 1), (6, 1, 1), (2, 2, 2), (2, 6, 132), (3, 3, 42), (4, 4, 24024), (5, 5, 701149020)]
        for m, n, many in known:
            self.assertEqual(count_orders(Way(m, n, 12)), many)
            self.assertEqual(count_orders(Way(n, m, 12)), many)

    def test_only_the_walkers_count(self):
        chance = random.Random(81)
        for m, n in SIZES:
            for k in [1, 12]:
                way = random_way(chance, m, n, k, 4)
                self.assertEqual(count_orders(way), formula(m, n))
                self.assertEqual(order_by_rank(way, 0), tuple(pairs_of(way)))
                self.assertEqual(next(orders(way, start=formula(m, n) - 1)), order_by_rank(Way(m, n, 1), formula(m, n) - 1))


class GreatWaysTest(Case):
    def test_first_and_last(self):
        for m, n in SIZES:
            way = Way(m, n, 12)
            first = tuple((i, j) for i in range(m) for j in range(n))
            last = tuple((i, j) for j in range(n) for i in range(m))
            self.assertEqual(order_by_rank(way, 0), first)
            self.assertEqual(rank_of_order(way, first), 0)
            self.assertEqual(order_by_rank(way, formula(m, n) - 1), last)
            self.assertEqual(rank_of_order(way, last), formula(m, n) - 1)
            self.assertEqual(next(orders(way)), first)
            self.assertEqual(list(orders(way, start=formula(m, n) - 1)), [last])
            self.assertEqual(list(orders(way, start=formula(m, n))), [])

    def test_drawn_numbers(self):
        chance = random.Random(82)
        for m, n in [(6, 6), (5, 6), (6, 4), (4, 4)]:
            way = Way(m, n, 12)
            for _ in range(60):
                rank = chance.randrange(formula(m, n))
                order = order_by_rank(way, rank)
                self.assertEqual(slow_order_fault(way, order), -1)
                self.assertEqual(rank_of_order(way, order), rank)

    def test_drawn_orders(self):
        chance = random.Random(83)
        for m, n in [(6, 6), (6, 5), (4, 6)]:
            way = Way(m, n, 12)
            for _ in range(40):
                order = random_order(chance, way)
                rank = rank_of_order(way, order)
                self.assertTrue(0 <= rank < formula(m, n))
                self.assertEqual(order_by_rank(way, rank), order)

    def test_neighbours(self):
        chance = random.Random(84)
        way = Way(6, 6, 12)
        for _ in range(40):
            rank = chance.randrange(formula(6, 6) - 30)
            found = list(islice(orders(way, start=rank), 30))
            self.assertEqual(found, sorted(set(found)))
            self.assertEqual([rank_of_order(way, order) for order in found], list(range(rank, rank + 30)))

    def test_the_last_ones(self):
        way = Way(6, 6, 12)
        total = formula(6, 6)
        found = list(orders(way, start=total - 50))
        self.assertEqual(found, [order_by_rank(way, rank) for rank in range(total - 50, total)])

    def test_the_middle_size(self):
        found = list(orders(Way(4, 4, 2)))
        self.assertEqual(len(found), 24024)
        self.assertEqual(found, sorted(set(found)))
        self.assertEqual(found[5000:5100], list(islice(orders(Way(4, 4, 2), start=5000), 100)))


class NumberTest(Case):
    def check_start(self, way, value):
        self.assertTrue(self.failure(InvalidNumber, lambda: next(orders(way, start=value))).value is value)

    def test_any_number(self):
        for m, n in [(1, 1), (2, 2), (3, 3), (6, 6)]:
            way = Way(m, n, 2)
            for value in not_numbers(0, formula(m, n) - 1):
                self.assertTrue(self.failure(InvalidNumber, order_by_rank, way, value).value is value)

    def test_any_start(self):
        for m, n in [(1, 1), (2, 2), (3, 3), (6, 6)]:
            way = Way(m, n, 2)
            for value in not_numbers(0, formula(m, n)):
                self.check_start(way, value)

    def test_limits(self):
        way = Way(2, 2, 2)
        self.assertEqual(self.failure(InvalidNumber, order_by_rank, way, 2).value, 2)
        self.assertEqual(self.failure(InvalidNumber, order_by_rank, way, -1).value, -1)
        self.assertEqual(list(orders(way, start=2)), [])
        self.check_start(way, 3)
        self.check_start(way, -1)

    def test_true_and_false(self):
        way = Way(2, 2, 2)
        for value in [True, False]:
            self.check_start(way, value)
            self.assertIs(self.failure(InvalidNumber, order_by_rank, way, value).value, value)


class OrderTest(Case):
    def check_wrong(self, way, order):
        index = slow_order_fault(way, order)
        self.assertNotEqual(index, -1)
        self.assertEqual(self.failure(InvalidOrder, rank_of_order, way, order).index, index)
        self.assertEqual(self.failure(InvalidOrder, check_order, way, order).index, index)

    def test_any_value(self):
        for way in [Way(2, 3, 2), Way(1, 2, 1), Way(6, 6, 12)]:
            for value in other_kinds() + [0, 1, 10 ** 998, list(pairs_of(way)), nested(lambda part: (part, 0), 90)]:
                self.check_wrong(way, value)

    def test_any_item(self):
        way = Way(2, 2, 2)
        order = ((0, 0), (1, 0), (0, 1), (1, 1))
        for index in range(1, 4):
            for value in not_numbers(0, 1) + [list(order[index]), (many_parts(), 0), (0, many_parts())]:
                self.check_wrong(way, order[:index] + (value,) + order[index + 1:])
                self.check_wrong(way, order[:index] + ((value, 1),) + order[index + 1:])
                self.check_wrong(way, order[:index] + ((1, value),) + order[index + 1:])

    def test_changed_orders(self):
        chance = random.Random(85)
        wrong = 0
        for _ in range(300):
            way = Way(chance.randint(1, 6), chance.randint(1, 6), 2)
            order = list(random_order(chance, way))
            at, other = chance.randrange(len(order)), chance.randrange(len(order))
            order[at], order[other] = order[other], order[at]
            if slow_order_fault(way, tuple(order)) != -1:
                wrong += 1
                self.check_wrong(way, tuple(order))
            else:
                self.assertEqual(order_by_rank(way, rank_of_order(way, tuple(order))), tuple(order))
            self.check_wrong(way, tuple(order[:-1]))
            self.check_wrong(way, tuple(order + order[:1]))
            self.check_wrong(way, order)
        self.assertGreater(wrong, 100)


class RunsTest(Case):
    def test_two_runs_at_the_same_time(self):
        way = Way(2, 3, 1)
        expected = slow_orders(way)
        both = list(zip(orders(way), orders(way, start=1)))
        self.assertEqual(both, list(zip(expected, expected[1:])))
        within = [(one, two) for one in orders(way) for two in orders(way)]
        self.assertEqual(within, [(one, two) for one in expected for two in expected])

    def test_stopped_early(self):
        way = Way(3, 3, 1)
        run = orders(way, start=5)
        self.assertEqual(next(run), slow_orders(way)[5])
        run.close()
        self.assertEqual(list(orders(way)), slow_orders(way))


class FactsTest(Case):
    def test_the_pairs_of_every_plan_can_pass_in_every_order(self):
        way = Way(2, 3, 3)
        for plan in [Plan.leftmost(way), Plan.rightmost(way)]:
            for order in orders(way):
                crossing = Crossing(way)
                crossing.run(*steps(plan, order=order))
                self.assertEqual((crossing.cells, crossing.is_over), (plan.cells, True))

    def test_mirrored_and_closed_ways(self):
        for m, n in [(2, 3), (3, 2), (1, 4), (3, 3)]:
            way = Way(m, n, 3)
            turned = [tuple((j, i) for i, j in order) for order in orders(way)]
            self.assertEqual(list(orders(way.mirrored())), sorted(turned))
            self.assertEqual(list(orders(way.closing(1))), list(orders(way)))


class DocumentTest(Case):
    def test_example(self):
        way = Way(2, 2, 2)
        self.assertEqual(count_orders(way), 2)
        self.assertEqual(order_by_rank(way, 0), ((0, 0), (0, 1), (1, 0), (1, 1)))
        self.assertEqual(rank_of_order(way, ((0, 0), (1, 0), (0, 1), (1, 1))), 1)
