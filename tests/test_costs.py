"""Module passplaces.costs: costs, and the cost of a plan, point [40]."""

import random

from passplaces import costs as module
from passplaces.costs import bound_by, cheapest_plan, check_cheapest, cost_of
from passplaces.errors import InvalidCosts
from passplaces.plans import Plan
from passplaces.ways import Way
from tests.helpers import Case, many_parts, nested, not_numbers, other_kinds
from tests.slow import pairs_of, random_way, slow_least, slow_plans, small_ways
from tests.slow_costs import random_costs, slow_cost, table_of, with_plans
from tests.slow_walks import random_cells


def changed(costs, i, j, item):
    """Costs with another item for one pair."""
    rows = [list(row) for row in costs]
    rows[i][j] = item
    return tuple(tuple(row) for row in rows)


def wrong_forms(costs):
    """Values that are not tuples of rows of the right lengths, made of right rows."""
    return [
        list(costs),
        tuple(list(row) for row in costs),
        costs[:-1] + (list(costs[-1]),),
        costs[:-1],
        costs + costs[:1],
        costs[:-1] + (costs[-1][:-1],),
        costs[:-1] + (costs[-1] + costs[-1][:1],),
        (costs[0][:-1],) + costs[1:],
        costs[:-1] + (None,),
        costs[:-1] + (many_parts(),),
        dict(enumerate(costs)),
    ]


class SumTest(Case):
    def test_the_limit(self):
        self.assertEqual(module.MAX_COST, 1000)

    def test_all_plans_of_small_ways(self):
        chance = random.Random(11)
        for way in with_plans(small_ways(chance, 150, 2000)):
            costs = random_costs(chance, way)
            for cells in slow_plans(way)[:40]:
                found = cost_of(Plan(way, cells), costs)
                self.assertEqual(found, slow_cost(way, cells, costs))
                self.assertIs(type(found), int)

    def test_great_ways(self):
        chance = random.Random(12)
        for way in with_plans([Way(6, 6, 12)] + [random_way(chance, 6, 6, 12, 9) for _ in range(20)]):
            cells = random_cells(chance, way, slow_least(way))
            costs = random_costs(chance, way)
            self.assertEqual(cost_of(Plan(way, cells), costs), slow_cost(way, cells, costs))

    def test_each_pair_and_place_counts(self):
        way = Way(2, 3, 4)
        plan = Plan.rightmost(way)
        for i, j in pairs_of(way):
            for x in range(4):
                costs = table_of(way, lambda a, b, y: 7 if (a, b, y) == (i, j, x) else 0)
                self.assertEqual(cost_of(plan, costs), 7 if plan.place(i, j) == x else 0)

    def test_edges(self):
        way = Way(6, 6, 12)
        for cost in [0, 1000]:
            self.assertEqual(cost_of(Plan.leftmost(way), table_of(way, lambda i, j, x: cost)), 36 * cost)
        self.assertEqual(cost_of(Plan(Way(1, 1, 1), ((0,),)), (((1000,),),)), 1000)

    def test_by_name(self):
        plan = Plan(Way(1, 2, 2), ((1, 1),))
        self.assertEqual(cost_of(costs=(((5, 1), (2, 4)),), plan=plan), 5)

    def test_places_that_are_not_allowed_have_costs_too(self):
        way = Way(1, 2, 3).closing(0, left=1)
        costs = (((1, 2, 3), (4, 5, 6)),)
        self.assertEqual(cost_of(Plan.leftmost(way), costs), 6)
        short = (((1, 2, 3), (5, 6)),)
        self.assertEqual(self.failure(InvalidCosts, cost_of, Plan.leftmost(way), short).pair, (0, 1))

    def test_arguments_stay_as_they_are(self):
        way = Way(2, 2, 2)
        plan = Plan.leftmost(way)
        costs = table_of(way, lambda i, j, x: i + j + x)
        seen = (repr(costs), plan.cells, way.table)
        cost_of(plan, costs)
        self.assertEqual((repr(costs), plan.cells, way.table), seen)


class InvalidCostsTest(Case):
    def check(self, way, costs, pair):
        """All four functions raise InvalidCosts, ahead of everything else."""
        wrong = [many_parts(), None, (1, 2, 3), ()]
        found = [self.failure(InvalidCosts, cheapest_plan, way, costs)]
        found += [self.failure(InvalidCosts, bound_by, way, costs, value) for value in wrong]
        found += [self.failure(InvalidCosts, check_cheapest, way, costs, value) for value in wrong]
        if slow_least(way) is not None:
            found.append(self.failure(InvalidCosts, cost_of, Plan.leftmost(way), costs))
        for error in found:
            self.assertEqual(error.pair, pair)
            self.assertIs(type(error.pair), type(pair))

    def ways(self):
        # The second one has no plan: NoPlan comes behind InvalidCosts.
        return [Way(2, 3, 3), Way(3, 3, 2), Way(1, 3, 12), Way(6, 6, 12)]

    def test_wrong_forms(self):
        for way in self.ways():
            costs = table_of(way, lambda i, j, x: 1000 - x)
            for value in wrong_forms(costs) + other_kinds() + [0, 1, 10 ** 998, -1]:
                self.check(way, value, None)
            for value in other_kinds() + [0, 10 ** 998]:
                self.check(way, (value,) * way.rights, None)

    def test_values_with_very_many_parts_in_the_right_form(self):
        for way in [Way(2, 2, 2), Way(2, 2, 1)]:
            self.check(way, many_parts(), (0, 0))
            self.check(way, (many_parts(), (None, None)), (0, 0))
            self.check(way, (((0,) * way.places,) * 2, many_parts()), (1, 0))
        self.check(Way(1, 1, 1), nested(lambda part: (part,), 100), (0, 0))

    def test_wrong_form_comes_before_wrong_items(self):
        costs = (((1, 2), None), ((1, 2), (1, 2), (1, 2)))
        self.check(Way(2, 2, 2), costs, None)
        self.check(Way(2, 2, 2), costs[:1], None)
        self.check(Way(2, 2, 2), costs[:1] + (None,), None)

    def test_wrong_items(self):
        for way in self.ways():
            costs = table_of(way, lambda i, j, x: x)
            row = tuple(range(way.places))
            wrong = [list(row), row[:-1], row + (0,), (row,), set(row), dict(enumerate(row)), range(len(row))]
            for i, j in {(0, 0), (way.rights - 1, 0), (0, way.lefts - 1), (way.rights - 1, way.lefts - 1)}:
                for item in wrong + [0, "0" * way.places, None, True, many_parts(), b"\x00" * way.places]:
                    self.check(way, changed(costs, i, j, item), (i, j))

    def test_wrong_numbers(self):
        for way in [Way(2, 3, 3), Way(3, 3, 2)]:
            costs = table_of(way, lambda i, j, x: x)
            row = tuple(range(way.places))
            for i, j in pairs_of(way):
                for x in {0, way.places - 1}:
                    for value in not_numbers(0, 1000):
                        self.check(way, changed(costs, i, j, row[:x] + (value,) + row[x + 1:]), (i, j))

    def test_the_first_wrong_pair_counts(self):
        way = Way(3, 3, 2)
        costs = table_of(way, lambda i, j, x: x)
        chance = random.Random(13)
        for _ in range(100):
            some = chance.sample(pairs_of(way), chance.randint(1, 9))
            wrong = costs
            for i, j in some:
                wrong = changed(wrong, i, j, chance.choice([None, (0,), (0, 1001), (True, 0), [0, 1], (-1, 0)]))
            self.check(way, wrong, min(some))

    def test_limits(self):
        way = Way(1, 1, 2)
        for low, high in [(0, 1000), (1000, 0), (1000, 1000)]:
            self.assertEqual(cost_of(Plan.leftmost(way), (((low, high),),)), low)
            self.assertEqual(cost_of(Plan.rightmost(way), (((low, high),),)), high)
        for value in [-1, 1001, True, False]:
            self.check(way, (((value, 0),),), (0, 0))
            self.check(way, (((0, value),),), (0, 0))
