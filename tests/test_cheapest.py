"""Module passplaces.costs: cheapest plans and their checks, points [40] and [41]."""

import random
import time

from passplaces.costs import bound_by, cheapest_plan, check_cheapest, cost_of
from passplaces.errors import InvalidAnswer, InvalidCosts, NoPlan
from passplaces.plans import Plan, check_chain
from passplaces.ways import Way
from tests.helpers import Case, many_parts, other_kinds
from tests.slow import pairs_of, random_way, slow_least, slow_plans, small_ways
from tests.slow_costs import (
    is_right_answer, random_costs, slow_bound, slow_cost, table_of, with_plans, without_plans,
)
from tests.slow_walks import random_cells


def least_cost(way, costs):
    """The cost of a cheapest plan, by a search through all plans."""
    return min(slow_cost(way, cells, costs) for cells in slow_plans(way))


class CheapestTest(Case):
    def check(self, way, costs):
        """The answer is right by the words of [41], so its cost is the least one."""
        answer = cheapest_plan(way, costs)
        self.assertEqual([type(answer), len(answer), type(answer[1])], [tuple, 3, Plan])
        self.assertTrue(is_right_answer(way, costs, answer), (way.table, costs))
        self.assertEqual(check_cheapest(way, costs, answer), answer[0])
        self.assertEqual(cost_of(answer[1], costs), answer[0])
        return answer

    def test_small_ways(self):
        chance = random.Random(31)
        for way in with_plans(small_ways(chance, 500, 2000)):
            costs = random_costs(chance, way)
            self.assertEqual(self.check(way, costs)[0], least_cost(way, costs))

    def test_full_ways(self):
        chance = random.Random(32)
        for size in [(1, 1, 1), (1, 1, 12), (2, 2, 2), (2, 2, 5), (1, 4, 4), (4, 1, 4), (3, 3, 3), (2, 3, 4)]:
            for _ in range(8):
                costs = random_costs(chance, Way(*size))
                self.assertEqual(self.check(Way(*size), costs)[0], least_cost(Way(*size), costs))

    def test_great_ways(self):
        chance = random.Random(33)
        ways = [Way(6, 6, 12), Way(6, 6, 6), Way(1, 6, 12), Way(6, 1, 12), Way(5, 6, 12)]
        for way in with_plans(ways + [random_way(chance, 6, 6, 12, share) for share in [9, 9, 8, 8, 7, 7]]):
            for _ in range(2):
                costs = random_costs(chance, way)
                cost = self.check(way, costs)[0]
                for _ in range(5):
                    cells = random_cells(chance, way, slow_least(way))
                    self.assertLessEqual(cost, slow_cost(way, cells, costs))

    def test_greatest_ways_take_a_short_time(self):
        chance = random.Random(34)
        way = Way(6, 6, 12)
        for _ in range(12):
            costs = random_costs(chance, way)
            start = time.monotonic()
            answer = cheapest_plan(way, costs)
            check_cheapest(way, costs, answer)
            self.assertLess(time.monotonic() - start, 10)

    def test_dear_conditions(self):
        # Each pair alone would like to break all conditions.
        for way in [Way(6, 6, 12), Way(6, 6, 6), Way(4, 5, 9)]:
            last = way.places - 1
            costs = table_of(way, lambda i, j, x: 90 * (x if j > i else last - x))
            self.check(way, costs)
            costs = table_of(way, lambda i, j, x: 1000 if x % 2 == (i + j) % 2 else 0)
            self.check(way, costs)

    def test_one_plan(self):
        way = Way(6, 6, 6)
        for i, j in pairs_of(way):
            way = way.allowing(i, j, slow_least(way)[i][j])
        costs = table_of(way, lambda i, j, x: 1000 - x)
        cost, plan, _ = self.check(way, costs)
        self.assertEqual((cost, plan), (slow_cost(way, slow_least(way), costs), Plan.rightmost(way)))

    def test_edges_of_costs(self):
        for way in [Way(1, 1, 1), Way(3, 3, 3), Way(6, 6, 12)]:
            for cost in [0, 1000]:
                found = self.check(way, table_of(way, lambda i, j, x: cost))
                self.assertEqual(found[0], cost * len(way))

    def test_closed_places_do_not_count(self):
        way = Way(1, 2, 3).closing(0, left=0)
        self.assertEqual(self.check(way, (((0, 9, 8), (0, 0, 5)),))[0], 9)

    def test_mirrored_ways(self):
        chance = random.Random(35)
        for way in with_plans(small_ways(chance, 60, 10 ** 9)):
            costs = random_costs(chance, way)
            turned = tuple(
                tuple(costs[i][j][::-1] for i in range(way.rights)) for j in range(way.lefts)
            )
            self.assertEqual(cheapest_plan(way, costs)[0], cheapest_plan(way.mirrored(), turned)[0])

    def test_by_name(self):
        costs = (((5, 1), (2, 4)),)
        found = cheapest_plan(costs=costs, way=Way(1, 2, 2))
        self.assertEqual(check_cheapest(answer=found, costs=costs, way=Way(1, 2, 2)), 5)

    def test_arguments_stay_as_they_are(self):
        way = Way(2, 3, 3)
        costs = table_of(way, lambda i, j, x: (i * 7 + j * 5 + x * 3) % 11)
        seen = (repr(costs), way.table)
        first = cheapest_plan(way, costs)
        parts = (first[0], first[1].cells, repr(first[2]))
        check_cheapest(way, costs, first)
        cheapest_plan(way, table_of(way, lambda i, j, x: 0))
        self.assertEqual((repr(costs), way.table), seen)
        self.assertEqual((first[0], first[1].cells, repr(first[2])), parts)


class NoPlanTest(Case):
    def test_ways_without_plans(self):
        chance = random.Random(36)
        ways = without_plans([Way(2, 2, 1), Way(6, 6, 5)] + small_ways(chance, 200, 10 ** 9))
        self.assertGreater(len(ways), 30)
        for way in ways:
            costs = random_costs(chance, way)
            self.assertIsNone(check_chain(way, self.failure(NoPlan, cheapest_plan, way, costs).chain))
            self.check_answers(way, costs)

    def check_answers(self, way, costs):
        """NoPlan comes whatever the answer is."""
        other = Plan.leftmost(Way(1, 1, 1))
        for answer in [None, (), [], (0, None, ()), (0, other, ()), many_parts(), True]:
            error = self.failure(NoPlan, check_cheapest, way, costs, answer)
            self.assertIsNone(check_chain(way, error.chain))

    def test_wrong_costs_come_first(self):
        way = Way(2, 2, 1)
        self.assertIsNone(self.failure(InvalidCosts, cheapest_plan, way, None).pair)
        self.assertIsNone(self.failure(InvalidCosts, check_cheapest, way, None, None).pair)


class AnswerTest(Case):
    def setUp(self):
        super().setUp()
        self.way = Way(2, 2, 3)
        self.costs = (((5, 0, 9), (0, 7, 8)), ((3, 9, 1), (4, 2, 2)))
        self.found = cheapest_plan(self.way, self.costs)

    def check(self, part, answer):
        error = self.failure(InvalidAnswer, check_cheapest, self.way, self.costs, answer)
        self.assertEqual(error.part, part)

    def test_right(self):
        self.assertEqual(check_cheapest(self.way, self.costs, self.found), self.found[0])
        self.assertIs(type(check_cheapest(self.way, self.costs, self.found)), int)
        self.assertTrue(self.found[2])

    def test_form(self):
        cost, plan, weights = self.found
        wrong = [list(self.found), self.found[:2], self.found + (0,), (self.found,), plan, cost, weights]
        for answer in wrong + other_kinds() + [0, 10 ** 998, {0: cost, 1: plan, 2: weights}]:
            self.check("form", answer)

    def test_plan(self):
        cost, plan, weights = self.found
        others = [plan.cells, (plan,), [plan], Plan, self.way, cost]
        others += [Plan.leftmost(Way(2, 2, 2)), Plan.leftmost(self.way.closing(0, right=0, left=1))]
        for value in others + other_kinds():
            self.check("plan", (cost, value, weights))
            self.check("plan", (None, value, None))

    def test_a_plan_of_an_equal_way(self):
        cost, plan, weights = self.found
        twin = Plan(self.way.mirrored().mirrored(), plan.cells)
        self.assertEqual(check_cheapest(self.way, self.costs, (cost, twin, weights)), cost)

    def test_cost(self):
        cost, plan, weights = self.found
        wrong = [cost - 1, cost + 1, -cost, 0, 10 ** 998, -(10 ** 998), (cost,), [cost], str(cost)]
        for value in wrong + other_kinds():
            self.check("cost", (value, plan, weights))
            self.check("cost", (value, plan, None))

    def test_true_and_false_are_no_costs(self):
        way = Way(1, 1, 1)
        for cost, value in [(1, True), (0, False)]:
            answer = (value, Plan.leftmost(way), ())
            error = self.failure(InvalidAnswer, check_cheapest, way, (((cost,),),), answer)
            self.assertEqual(error.part, "cost")
            self.assertEqual(check_cheapest(way, (((cost,),),), (cost,) + answer[1:]), cost)

    def test_weights(self):
        cost, plan, weights = self.found
        wrong = [list(weights), weights + weights[:1], weights + (None,), weights[0], [weights]]
        for value in wrong + [value for value in other_kinds() if type(value) is not tuple or value != ()]:
            self.check("weights", (cost, plan, value))
        for at in range(4):
            for value in [None, True, -1, [0, 1], many_parts()]:
                changed = weights[0][:at] + (value,) + weights[0][at + 1:]
                self.check("weights", (cost, plan, (changed,) + weights[1:]))

    def test_bound(self):
        cost, plan, weights = self.found
        self.assertLess(bound_by(self.way, self.costs, ()), cost)
        self.check("bound", (cost, plan, ()))
        for index, weight in enumerate(weights):
            for amount in [1, 10 ** 998]:
                changed = weights[:index] + (weight[:3] + (weight[3] + amount,),) + weights[index + 1:]
                if slow_bound(self.way, self.costs, changed) != cost:
                    self.check("bound", (cost, plan, changed))
            without = weights[:index] + weights[index + 1:]
            if slow_bound(self.way, self.costs, without) != cost:
                self.check("bound", (cost, plan, without))

    def test_plans_that_are_not_cheapest(self):
        weights = self.found[2]
        dearer = 0
        for cells in slow_plans(self.way):
            cost = slow_cost(self.way, cells, self.costs)
            if cost > self.found[0]:
                dearer += 1
                self.check("bound", (cost, Plan(self.way, cells), weights))
                self.check("cost", (self.found[0], Plan(self.way, cells), weights))
        self.assertGreater(dearer, 3)

    def test_other_right_answers(self):
        chance = random.Random(37)
        for way in with_plans(small_ways(chance, 80, 500)):
            costs = random_costs(chance, way)
            cost, _, weights = cheapest_plan(way, costs)
            for cells in slow_plans(way):
                if slow_cost(way, cells, costs) == cost:
                    self.assertEqual(check_cheapest(way, costs, (cost, Plan(way, cells), weights)), cost)
            shuffled = chance.sample(weights, len(weights))
            answer = (cost, cheapest_plan(way, costs)[1], tuple(shuffled))
            self.assertEqual(check_cheapest(way, costs, answer), cost)

    def test_the_first_wrong_part_counts(self):
        cost, plan, weights = self.found
        rights = (cost, plan, weights)
        wrongs = (cost + 1, None, None)
        for bits in range(1, 8):
            answer = tuple(wrongs[at] if bits >> at & 1 else rights[at] for at in range(3))
            first = "plan" if bits & 2 else "cost" if bits & 1 else "weights"
            self.check(first, answer)
            self.check("form", answer + (0,))
            wrong_costs = self.costs[:1] + ((None, (1, 2, 3)),)
            error = self.failure(InvalidCosts, check_cheapest, self.way, wrong_costs, answer)
            self.assertEqual(error.pair, (1, 0))


class DocumentTest(Case):
    def test_example(self):
        way = Way(1, 2, 2)
        costs = (((5, 1), (2, 4)),)
        found = cheapest_plan(way, costs)
        self.assertEqual((found[0], found[1].cells, check_cheapest(way, costs, found)), (5, ((1, 1),), 5))
