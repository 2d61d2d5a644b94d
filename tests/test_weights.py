"""Module passplaces.costs: weights and their bound, point [41]."""

import random

from passplaces.costs import bound_by, cheapest_plan, check_cheapest
from passplaces.errors import InvalidAnswer
from passplaces.plans import Plan
from passplaces.ways import Way
from tests.helpers import Case, many_parts, nested, not_numbers, other_kinds
from tests.slow import pairs_of, random_way, slow_conditions, slow_least, slow_plans, small_ways
from tests.slow_costs import (
    all_weight_keys, random_costs, random_weights, slow_bound, slow_cost, table_of,
)


class BoundTest(Case):
    def test_no_weights(self):
        chance = random.Random(21)
        for way in small_ways(chance, 100, 10 ** 9):
            costs = random_costs(chance, way)
            least = [min(costs[i][j][x] for x in way.table[i][j]) for i, j in pairs_of(way)]
            self.assertEqual(bound_by(way, costs, ()), sum(least))

    def test_one_weight(self):
        chance = random.Random(22)
        for way in [Way(2, 2, 3), Way(1, 3, 4), Way(3, 1, 2), Way(2, 3, 4).closing(1, left=1)]:
            costs = random_costs(chance, way)
            for key in all_weight_keys(way):
                for amount in [1, 2, 500, 10 ** 998]:
                    weights = (key + (amount,),)
                    self.assertEqual(bound_by(way, costs, weights), slow_bound(way, costs, weights))

    def test_drawn_weights(self):
        chance = random.Random(23)
        for way in small_ways(chance, 250, 10 ** 9):
            costs = random_costs(chance, way)
            for share, most in [(2, 5), (5, 300), (10, 1000)]:
                weights = random_weights(chance, way, share, most)
                found = bound_by(way, costs, weights)
                self.assertEqual(found, slow_bound(way, costs, weights))
                self.assertIs(type(found), int)

    def test_great_ways(self):
        chance = random.Random(24)
        for way in [Way(6, 6, 12), random_way(chance, 6, 6, 12, 6), Way(1, 6, 12), Way(6, 1, 12)]:
            costs = random_costs(chance, way)
            for share in [0, 1, 10]:
                weights = random_weights(chance, way, share, 400)
                self.assertEqual(bound_by(way, costs, weights), slow_bound(way, costs, weights))

    def test_ways_without_plans_have_bounds_too(self):
        way = Way(2, 2, 1)
        costs = table_of(way, lambda i, j, x: 3)
        weights = (((0, 1), (1, 0), 0, 5),)
        self.assertEqual(bound_by(way, costs, ()), 12)
        self.assertEqual(bound_by(way, costs, weights), slow_bound(way, costs, weights))
        self.assertEqual(bound_by(way, costs, weights), 17)

    def test_a_bound_may_be_less_than_nothing(self):
        way = Way(1, 2, 2)
        costs = (((0, 0), (0, 0)),)
        self.assertEqual(bound_by(way, costs, (((0, 1), (0, 0), 1, 9),)), -9)
        self.assertEqual(bound_by(way, costs, (((0, 1), (0, 0), 0, 9),)), 0)

    def test_the_order_of_weights_does_not_count(self):
        chance = random.Random(25)
        way = Way(3, 3, 4)
        costs = random_costs(chance, way)
        weights = random_weights(chance, way, 6, 90)
        self.assertEqual(bound_by(way, costs, weights[::-1]), bound_by(way, costs, weights))

    def test_no_plan_costs_less_than_a_bound(self):
        chance = random.Random(26)
        for way in small_ways(chance, 60, 500):
            costs = random_costs(chance, way)
            for _ in range(5):
                bound = bound_by(way, costs, random_weights(chance, way, 3, 60))
                for cells in slow_plans(way):
                    self.assertLessEqual(bound, slow_cost(way, cells, costs))

    def test_by_name(self):
        costs = (((5, 1), (2, 4)),)
        self.assertEqual(bound_by(weights=(), costs=costs, way=Way(1, 2, 2)), 3)
        self.assertEqual(bound_by(Way(1, 2, 2), costs, weights=(((0, 1), (0, 0), 1, 2),)), 5)

    def test_arguments_stay_as_they_are(self):
        way = Way(2, 2, 3)
        costs = table_of(way, lambda i, j, x: i + j + x)
        weights = random_weights(random.Random(27), way, 8, 50)
        seen = (repr(costs), repr(weights), way.table)
        first = bound_by(way, costs, weights)
        self.assertEqual((repr(costs), repr(weights), way.table), seen)
        self.assertEqual(bound_by(way, costs, weights), first)


class InvalidWeightsTest(Case):
    def check(self, way, weights):
        """Both functions that take weights find them wrong."""
        costs = table_of(way, lambda i, j, x: 1)
        self.assertEqual(self.failure(InvalidAnswer, bound_by, way, costs, weights).part, "weights")
        if slow_least(way) is not None:
            answer = (len(way), Plan.leftmost(way), weights)
            self.assertEqual(self.failure(InvalidAnswer, check_cheapest, way, costs, answer).part, "weights")

    def check_right(self, way, weights):
        costs = table_of(way, lambda i, j, x: 1)
        self.assertEqual(bound_by(way, costs, weights), slow_bound(way, costs, weights))

    def way(self):
        return Way(2, 3, 4).closing(0, 2, left=1)

    def test_any_value(self):
        for way in [self.way(), Way(1, 1, 1), Way(2, 2, 1)]:
            for value in other_kinds() + [0, 1, 10 ** 998]:
                if type(value) is not tuple or value != ():
                    self.check(way, value)

    def test_any_item(self):
        way = self.way()
        right = tuple(key + (1,) for key in all_weight_keys(way)[:3])
        self.check_right(way, right)
        for index in range(3):
            for value in other_kinds() + [0, list(right[index]), right[index][:3], right[index] + (1,)]:
                self.check(way, right[:index] + (value,) + right[index + 1:])
        self.check(way, list(right))
        self.check(way, right[0])

    def test_any_part(self):
        way = self.way()
        for key in all_weight_keys(way)[::5]:
            right = key + (1,)
            self.check_right(way, (right,))
            for at in range(3):
                # (0, 0) may be right as a pair.
                others = [value for value in other_kinds() if type(value) is not tuple or value != (0, 0)]
                for value in others + [-1, 4, 10 ** 998, list(right[1]), right[1] + (0,), right[1][:1]]:
                    self.check(way, (right[:at] + (value,) + right[at + 1:],))
            for value in other_kinds() + [0, -1, -2, -(10 ** 998)]:
                self.check(way, (right[:3] + (value,),))

    def test_any_number_of_a_pair(self):
        way = self.way()
        right = ((0, 1), (0, 0), 1, 1)
        self.check_right(way, (right,))
        for value in not_numbers(0, 2) + [[0], (0,)]:
            self.check(way, (((value, 1), (0, 0), 1, 1),))
            self.check(way, (((0, value), (0, 0), 1, 1),))
            self.check(way, (((0, 1), (value, 0), 1, 1),))
            self.check(way, (((0, 1), (0, value), 1, 1),))
        deep = nested(lambda part: (part, 0), 99)
        self.check(way, ((deep, (0, 0), 1, 1),))
        self.check(way, (((0, 1), (0, many_parts()), 1, 1),))

    def test_conditions_only(self):
        way = Way(3, 3, 3)
        joined = {(a, b) for a, b, _ in slow_conditions(way)}
        for a in pairs_of(way):
            for b in pairs_of(way):
                weights = ((a, b, 1, 2),)
                if (a, b) in joined:
                    self.check_right(way, weights)
                else:
                    self.check(way, weights)

    def test_places_of_the_lower_pair_only(self):
        way = Way(1, 2, 5).allowing(0, 0, 1, 3).allowing(0, 1, 0, 2, 4)
        for x in range(-1, 7):
            weights = (((0, 1), (0, 0), x, 2),)
            if x in (1, 3):
                self.check_right(way, weights)
            else:
                self.check(way, weights)

    def test_no_two_are_equal(self):
        way = Way(2, 2, 3)
        keys = all_weight_keys(way)
        right = tuple(key + (2,) for key in keys)
        self.check_right(way, right)
        for index in range(len(keys)):
            for amount in [1, 2, 3]:
                self.check(way, right + (keys[index] + (amount,),))
                self.check(way, (keys[index] + (amount,),) + right)
        self.check(way, (right[0],) * 2)
        self.check(way, (right[0],) * 5000)

    def test_no_conditions(self):
        way = Way(1, 1, 3)
        self.check_right(way, ())
        self.check(way, (((0, 0), (0, 0), 0, 1),))

    def test_wrong_weights_behind_right_ones(self):
        chance = random.Random(28)
        way = Way(3, 3, 3)
        for _ in range(50):
            weights = list(random_weights(chance, way, 5, 9))
            weights.insert(chance.randint(0, len(weights)), ((0, 0), (2, 2), 0, 1))
            self.check(way, tuple(weights))


class FoundWeightsTest(Case):
    def test_found_weights_are_right(self):
        chance = random.Random(29)
        for way in [Way(2, 2, 3), Way(3, 3, 4), Way(6, 6, 12)]:
            costs = random_costs(chance, way)
            cost, _, weights = cheapest_plan(way, costs)
            self.assertEqual(bound_by(way, costs, weights), cost)
            self.assertEqual(slow_bound(way, costs, weights), cost)
