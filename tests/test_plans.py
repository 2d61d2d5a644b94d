"""The class Plan: points [14], [15], [21] to [25]."""

import random
from itertools import product

from passplaces.errors import InvalidPlan, InvalidWalker, NoPlan, OtherWay
from passplaces.plans import Plan, check_chain, has_plan
from passplaces.ways import Way
from tests.helpers import Case, many_parts, not_numbers, other_kinds
from tests.slow import (
    bound_table, is_shift, is_slow_plan, pairs_of, random_way, slow_chain_fault, slow_distances, slow_fault,
    slow_greatest, slow_least, slow_plans, slow_rank_sum, slow_shifts, slow_tables, small_ways,
)


def with_entry(cells, pair, entry):
    """A table with another entry for a pair."""
    rows = [list(row) for row in cells]
    rows[pair[0]][pair[1]] = entry
    return tuple(tuple(row) for row in rows)


def same(way):
    """An equal way that is another object."""
    return way.mirrored().mirrored()


def possible_ways(seed, many, limit=2000):
    """Random small ways that have plans, with their tables."""
    chance = random.Random(seed)
    found = []
    while len(found) < many:
        for way in small_ways(chance, 10, limit):
            plans = slow_plans(way)
            if plans:
                found.append((way, plans))
    return found[:many]


def great_ways(seed, many):
    """Random ways of the greatest size that have plans."""
    chance = random.Random(seed)
    found = [Way(6, 6, 12)]
    while len(found) < many:
        way = random_way(chance, 6, 6, 12, chance.randint(6, 9))
        if slow_least(way) is not None:
            found.append(way)
    return found


class CreateTest(Case):
    def check(self, way, cells):
        fault = slow_fault(way, cells)
        self.assertIs(Plan.is_plan(way, cells), fault is None)
        if fault is None:
            plan = Plan(way, cells)
            self.assertEqual(plan.cells, cells)
            self.assertEqual(plan.way, way)
        else:
            error = self.failure(InvalidPlan, Plan, way, cells)
            self.assertEqual((error.part, error.pair), fault)

    def test_all_tables_of_small_ways(self):
        for way in small_ways(random.Random(12), 60, 300):
            for cells in slow_tables(way):
                self.check(way, cells)

    def test_all_tables_of_numbers(self):
        way = Way(2, 2, 3).closing(1, right=1)
        for one, two, three, four in product(range(-1, 4), repeat=4):
            self.check(way, ((one, two), (three, four)))

    def test_an_entry_changed_at_any_place(self):
        ways = [(way, plans[0]) for way, plans in possible_ways(13, 30)]
        ways.extend((way, slow_least(way)) for way in great_ways(14, 3))
        for way, cells in ways:
            self.check(way, cells)
            for pair in pairs_of(way):
                for entry in range(-1, way.places + 1):
                    self.check(way, with_entry(cells, pair, entry))

    def test_any_entry_at_any_place(self):
        way = Way(2, 3, 2)
        cells = ((0, 1, 1), (0, 0, 0))
        self.assertIs(Plan.is_plan(way, cells), True)
        for pair in pairs_of(way):
            for value in not_numbers(0, 1):
                error = self.failure(InvalidPlan, Plan, way, with_entry(cells, pair, value))
                self.assertEqual((error.part, error.pair), ("place", pair))
                self.assertIs(Plan.is_plan(way, with_entry(cells, pair, value)), False)

    def test_any_row(self):
        way = Way(2, 2, 2)
        for value in other_kinds() + [0, 10 ** 998, (0, 1, 1), [0, 1], "01"]:
            for cells in [(value, (0, 0)), ((0, 1), value), (value, value), (value,), (value, (0, 0), (0, 0))]:
                self.check(way, cells)

    def test_any_value(self):
        way = Way(2, 2, 2)
        good = ((0, 1), (0, 0))
        self.check(way, good)
        others = [0, 10 ** 998, list(good), ([0, 1], [0, 0]), [[0, 1], [0, 0]], good[:1], good + good, (good, good)]
        for value in other_kinds() + others:
            self.assertIsNotNone(slow_fault(way, value))
            self.check(way, value)

    def test_one_pair(self):
        way = Way(1, 1, 2)
        self.assertEqual(Plan(way, ((1,),)).cells, ((1,),))
        for value in [many_parts(), (many_parts(), many_parts())]:
            self.assertEqual(self.failure(InvalidPlan, Plan, way, value).part, "form")
        for value in [((many_parts(),),), ((True,),), (((0,),),), (([0],),)]:
            error = self.failure(InvalidPlan, Plan, way, value)
            self.assertEqual((error.part, error.pair), ("place", (0, 0)))

    def test_first_exception(self):
        way = Way(2, 3, 4).closing(3)
        # The last row has a wrong length, and places and their order are wrong, too.
        error = self.failure(InvalidPlan, Plan, way, ((3, 0, None), (2, 9)))
        self.assertEqual((error.part, error.pair), ("form", None))
        # A wrong place of the last pair comes before a wrong order of the first ones.
        error = self.failure(InvalidPlan, Plan, way, ((0, 0, 0), (2, 2, 3)))
        self.assertEqual((error.part, error.pair), ("place", (1, 2)))
        error = self.failure(InvalidPlan, Plan, way, ((0, 3, 0), (3, 2, 3)))
        self.assertEqual((error.part, error.pair), ("place", (0, 1)))
        error = self.failure(InvalidPlan, Plan, way, ((0, 0, 0), (2, 2, 1)))
        self.assertEqual((error.part, error.pair), ("order", (0, 0)))
        error = self.failure(InvalidPlan, Plan, way, ((2, 1, 2), (2, 2, 1)))
        self.assertEqual((error.part, error.pair), ("order", (0, 1)))
        error = self.failure(InvalidPlan, Plan, way, ((2, 2, 2), (1, 1, 0)))
        self.assertEqual((error.part, error.pair), ("order", (1, 2)))

    def test_arguments(self):
        way = Way(2, 2, 2)
        cells = ((0, 1), (0, 0))
        plan = Plan(cells=cells, way=way)
        self.assertEqual((plan.way, plan.cells), (way, cells))
        self.assertIs(plan.is_plan(way, cells), True)
        self.assertIs(plan.is_plan(cells=cells, way=Way(2, 2, 1)), False)
        self.assertEqual(plan.leftmost(way), Plan.leftmost(way=way))
        self.assertEqual(plan.rightmost(way), Plan.rightmost(way=way))

    def test_properties_cannot_be_set(self):
        plan = Plan.leftmost(Way(2, 2, 2))
        for name in ["way", "cells", "rank_sum"]:
            with self.assertRaises(AttributeError):
                setattr(plan, name, 1)

    def test_lists_that_are_refused_stay_as_they_are(self):
        cells = [[0, 1], [0, 0]]
        self.failure(InvalidPlan, Plan, Way(2, 2, 2), cells)
        self.assertEqual(cells, [[0, 1], [0, 0]])


class EqualTest(Case):
    def test_plans_of_a_way(self):
        for way, plans in possible_ways(15, 20, 300):
            for one, two in product(plans, repeat=2):
                self.assertIs(Plan(way, one) == Plan(same(way), two), one == two)
                self.assertIs(Plan(way, one) != Plan(same(way), two), one != two)

    def test_equal_tables_of_other_ways(self):
        cells = ((0, 1), (0, 0))
        one = Plan(Way(2, 2, 2), cells)
        self.assertFalse(one == Plan(Way(2, 2, 3), cells))
        self.assertFalse(one == Plan(Way(2, 2, 2).closing(1, right=1), cells))
        self.assertTrue(one == Plan(Way.square(2), cells))

    def test_other_values(self):
        plan = Plan.leftmost(Way(2, 2, 2))
        for value in other_kinds() + [plan.cells, plan.way, 0]:
            self.assertFalse(plan == value)
            self.assertFalse(value == plan)
            self.assertTrue(plan != value)


class PlaceTest(Case):
    def test_every_pair(self):
        for way, plans in possible_ways(16, 20):
            for cells in plans[:5]:
                plan = Plan(way, cells)
                for i, j in pairs_of(way):
                    self.assertEqual(plan.place(i, j), cells[i][j])
                    self.assertEqual(plan.place(left=j, right=i), cells[i][j])

    def test_wrong_walkers(self):
        plan = Plan.leftmost(Way(2, 3, 2))
        for value in not_numbers(0, 1):
            self.assertTrue(self.failure(InvalidWalker, plan.place, value, 0).value is value)
            self.assertTrue(self.failure(InvalidWalker, plan.place, value, None).value is value)
        for value in not_numbers(0, 2):
            self.assertTrue(self.failure(InvalidWalker, plan.place, 1, value).value is value)
        self.assertEqual(plan, Plan.leftmost(Way(2, 3, 2)))


class ExtremeTest(Case):
    def test_small_ways(self):
        for way, plans in possible_ways(17, 300):
            left, right = Plan.leftmost(way), Plan.rightmost(way)
            self.assertEqual(left.cells, bound_table(way, plans, min))
            self.assertEqual(right.cells, bound_table(way, plans, max))
            self.assertIn(left.cells, plans)
            self.assertIn(right.cells, plans)
            self.assertEqual((left.way, right.way), (way, way))
            self.assertIs(type(left), Plan)
            self.assertIs(type(right), Plan)

    def test_full_ways(self):
        for m, n, k in product(range(1, 7), range(1, 7), range(1, 13)):
            way = Way(m, n, k)
            if k < min(m, n):
                self.assertEqual(slow_chain_fault(way, self.failure(NoPlan, Plan.leftmost, way).chain), -1)
                self.assertEqual(slow_chain_fault(way, self.failure(NoPlan, Plan.rightmost, way).chain), -1)
                continue
            left = tuple(tuple(min(j, m - 1 - i) for j in range(n)) for i in range(m))
            right = tuple(tuple(k - 1 - min(i, n - 1 - j) for j in range(n)) for i in range(m))
            self.assertEqual(Plan.leftmost(way).cells, left)
            self.assertEqual(Plan.rightmost(way).cells, right)

    def test_greatest_ways(self):
        for way in great_ways(18, 60):
            self.assertEqual(Plan.leftmost(way).cells, slow_least(way))
            self.assertEqual(Plan.rightmost(way).cells, slow_greatest(way))

    def test_ways_without_plans(self):
        many = 0
        for way in small_ways(random.Random(19), 300, 2000):
            if not slow_plans(way):
                many += 1
                for make in [Plan.leftmost, Plan.rightmost]:
                    chain = self.failure(NoPlan, make, way).chain
                    self.assertEqual(slow_chain_fault(way, chain), -1)
                    self.assertIsNone(check_chain(way, chain))
        self.assertGreater(many, 50)


class LatticeTest(Case):
    def test_small_ways(self):
        for way, plans in possible_ways(20, 40, 500):
            chance = random.Random(len(plans))
            chosen = chance.sample(plans, min(8, len(plans)))
            for one, two in product(chosen, repeat=2):
                first, second = Plan(way, one), Plan(same(way), two)
                low, high = first.lowest(second), first.highest(second)
                self.assertEqual(low.cells, bound_table(way, [one, two], min))
                self.assertEqual(high.cells, bound_table(way, [one, two], max))
                self.assertIn(low.cells, plans)
                self.assertIn(high.cells, plans)
                self.assertEqual(low.way, way)
                self.assertIs(first.is_left_of(second), low.cells == one)
                self.assertIs(first.is_left_of(other=second), high.cells == two)
                self.assertEqual((first.cells, second.cells), (one, two))

    def test_several_others(self):
        for way, plans in possible_ways(21, 60):
            chance = random.Random(len(plans))
            chosen = [chance.choice(plans) for _ in range(chance.randint(1, 6))]
            first, *others = [Plan(same(way), cells) for cells in chosen]
            self.assertEqual(first.lowest(*others), Plan(way, bound_table(way, chosen, min)))
            self.assertEqual(first.highest(*others), Plan(way, bound_table(way, chosen, max)))

    def test_all_plans(self):
        for way, plans in possible_ways(22, 20):
            made = [Plan(way, cells) for cells in plans]
            self.assertEqual(made[-1].lowest(*made), Plan.leftmost(way))
            self.assertEqual(made[0].highest(*made), Plan.rightmost(way))

    def test_without_others(self):
        plan = Plan(Way(2, 2, 2), ((0, 1), (0, 1)))
        self.assertEqual(plan.lowest(), plan)
        self.assertEqual(plan.highest(), plan)

    def test_plans_that_cannot_be_compared(self):
        way = Way(2, 2, 2)
        one, two = Plan(way, ((0, 1), (0, 1))), Plan(way, ((1, 1), (0, 0)))
        self.assertIs(one.is_left_of(two), False)
        self.assertIs(two.is_left_of(one), False)
        self.assertIs(one.is_left_of(one), True)

    def test_greatest_ways(self):
        for way in great_ways(23, 10):
            left, right = Plan.leftmost(way), Plan.rightmost(same(way))
            self.assertEqual(right.lowest(left), left)
            self.assertEqual(left.highest(right, left), right)
            self.assertIs(left.is_left_of(right), True)
            self.assertIs(right.is_left_of(left), left == right)

    def test_other_way(self):
        way = Way(2, 2, 3)
        plan = Plan.leftmost(way)
        good = Plan.rightmost(Way(2, 2, 3))
        others = [
            Plan.leftmost(Way(2, 2, 2)),
            Plan.leftmost(Way(2, 3, 3)),
            Plan.leftmost(Way(3, 2, 3)),
            Plan.leftmost(way.closing(2, right=1, left=1)),
        ]
        for other in others:
            for method in [plan.lowest, plan.highest, plan.is_left_of, plan.distance]:
                self.assertIs(self.failure(OtherWay, method, other).value, other)
            for method in [plan.lowest, plan.highest]:
                self.assertIs(self.failure(OtherWay, method, good, other, others[0]).value, other)
                self.assertIs(self.failure(OtherWay, method, good, plan, good, other).value, other)
        self.assertEqual((plan, good), (Plan.leftmost(way), Plan.rightmost(way)))


class RankTest(Case):
    def test_rank_sums(self):
        for way, plans in possible_ways(24, 80):
            for cells in plans[:20]:
                self.assertEqual(Plan(way, cells).rank_sum, slow_rank_sum(way, cells))

    def test_ranks_are_not_places(self):
        plan = Plan(Way(1, 1, 12).allowing(0, 0, 3, 7, 11), ((7,),))
        self.assertEqual(plan.rank_sum, 1)
        self.assertEqual(Plan.rightmost(plan.way).rank_sum, 2)
        self.assertEqual(Plan.rightmost(Way(6, 6, 12)).rank_sum, sum(map(sum, slow_greatest(Way(6, 6, 12)))))

    def test_distances(self):
        for way, plans in possible_ways(25, 25, 200):
            for one in plans[:6]:
                found = slow_distances(way, one, plans)
                self.assertEqual(len(found), len(plans))
                for two in plans:
                    self.assertEqual(Plan(way, one).distance(Plan(same(way), two)), found[two])
                    self.assertEqual(Plan(way, two).distance(other=Plan(way, one)), found[two])

    def test_greatest_ways(self):
        for way in great_ways(26, 10):
            left, right = Plan.leftmost(way), Plan.rightmost(way)
            self.assertEqual(left.distance(right), right.rank_sum - left.rank_sum)
            self.assertEqual(right.distance(left), right.rank_sum - left.rank_sum)
            self.assertEqual(left.distance(left), 0)


class ShiftsTest(Case):
    def test_small_ways(self):
        for way, plans in possible_ways(27, 60, 500):
            for cells in plans[:15]:
                found = [plan.cells for plan in Plan(way, cells).shifts()]
                self.assertEqual(found, slow_shifts(way, cells, plans))

    def test_kinds(self):
        plan = Plan.leftmost(Way(2, 2, 3).closing(1, right=1))
        for other in plan.shifts():
            self.assertIs(type(other), Plan)
            self.assertEqual(other.way, plan.way)

    def test_none(self):
        self.assertEqual(list(Plan.leftmost(Way(1, 1, 1)).shifts()), [])
        self.assertEqual(list(Plan.leftmost(Way(1, 3, 12).closing(*range(11))).shifts()), [])

    def test_greatest_ways(self):
        for way in great_ways(28, 10):
            for plan in [Plan.leftmost(way), Plan.rightmost(way)]:
                tables = [
                    with_entry(plan.cells, (i, j), place)
                    for i, j in pairs_of(way) for place in way.table[i][j]
                ]
                expected = [cells for cells in tables if is_shift(way, plan.cells, cells) and is_slow_plan(way, cells)]
                self.assertEqual([other.cells for other in plan.shifts()], sorted(expected))

    def test_two_runs_at_the_same_time(self):
        plan = Plan(Way(3, 3, 4), ((1, 2, 3), (0, 1, 2), (0, 0, 0)))
        alone = [other.cells for other in plan.shifts()]
        self.assertGreater(len(alone), 3)
        pairs = list(zip(plan.shifts(), plan.shifts()))
        self.assertEqual([one.cells for one, _ in pairs], alone)
        self.assertEqual([two.cells for _, two in pairs], alone)
        runs = [(one.cells, two.cells) for one in plan.shifts() for two in plan.shifts()]
        self.assertEqual(runs, list(product(alone, repeat=2)))


class PathTest(Case):
    def check(self, way, one, two):
        path = list(Plan(way, one).path_to(Plan(same(way), two)))
        self.assertEqual((path[0].cells, path[-1].cells), (one, two))
        for plan in path:
            self.assertIs(type(plan), Plan)
            self.assertEqual(plan.way, way)
            self.assertTrue(is_slow_plan(way, plan.cells))
        for here, there in zip(path, path[1:]):
            self.assertTrue(is_shift(way, here.cells, there.cells))
        return len(path) - 1

    def test_small_ways(self):
        for way, plans in possible_ways(29, 30, 200):
            for one in plans[:8]:
                found = slow_distances(way, one, plans)
                for two in plans:
                    self.assertEqual(self.check(way, one, two), found[two])

    def test_greatest_ways(self):
        for way in great_ways(30, 5):
            left, right = Plan.leftmost(way), Plan.rightmost(way)
            middle = [plan for plan in left.path_to(right)][left.distance(right) // 2]
            for one, two in product([left, middle, right], repeat=2):
                self.assertEqual(self.check(way, one.cells, two.cells), one.distance(two))

    def test_plans_that_cannot_be_compared(self):
        way = Way(2, 2, 2)
        one, two = ((0, 1), (0, 1)), ((1, 1), (0, 0))
        self.assertEqual(self.check(way, one, two), 2)
        self.assertEqual(self.check(way, two, one), 2)

    def test_to_itself(self):
        plan = Plan.leftmost(Way(3, 3, 4))
        self.assertEqual(list(plan.path_to(other=plan)), [plan])

    def test_two_runs_at_the_same_time(self):
        way = Way(2, 2, 3)
        left, right = Plan.leftmost(way), Plan.rightmost(way)
        for one, two in zip(left.path_to(right), left.path_to(right)):
            self.assertEqual(one, two)

    def test_other_way(self):
        plan, other = Plan.leftmost(Way(2, 2, 3)), Plan.leftmost(Way(2, 2, 2))
        self.assertIs(self.failure(OtherWay, lambda: next(plan.path_to(other))).value, other)
        self.assertIs(self.failure(OtherWay, lambda: next(plan.path_to(other=other))).value, other)
        closed = Plan.leftmost(Way(2, 2, 3).closing(0, right=0))
        self.assertIs(self.failure(OtherWay, lambda: next(plan.path_to(closed))).value, closed)


class OtherWaysTest(Case):
    def test_fewer_places(self):
        chance = random.Random(31)
        many = 0
        for way, plans in possible_ways(31, 200, 500):
            i, j = chance.choice(pairs_of(way))
            if len(way.allowed(i, j)) < 2:
                continue
            closed = way.closing(chance.choice(way.allowed(i, j)), right=i, left=j)
            left = slow_plans(closed)
            self.assertLessEqual(set(left), set(plans))
            self.assertIs(has_plan(closed), left != [])
            if left:
                many += 1
                self.assertTrue(Plan.is_plan(way, Plan.leftmost(closed).cells))
                moved = Plan(way, Plan.leftmost(closed).cells)
                self.assertTrue(Plan.leftmost(way).is_left_of(moved))
                moved = Plan(way, Plan.rightmost(closed).cells)
                self.assertTrue(moved.is_left_of(Plan.rightmost(way)))
        self.assertGreater(many, 50)

    def test_seen_from_the_other_side(self):
        for way, plans in possible_ways(32, 100):
            back = way.mirrored()
            tables = [self.turned(way, cells) for cells in plans]
            self.assertEqual(sorted(tables), slow_plans(back))
            for cells in tables[:10]:
                self.assertIs(Plan.is_plan(back, cells), True)
            self.assertEqual(Plan.leftmost(back).cells, self.turned(way, Plan.rightmost(way).cells))
            self.assertEqual(Plan.rightmost(back).cells, self.turned(way, Plan.leftmost(way).cells))

    def turned(self, way, cells):
        last = way.places - 1
        return tuple(tuple(last - cells[i][j] for i in range(way.rights)) for j in range(way.lefts))

    def test_greatest_ways(self):
        for way in great_ways(33, 10):
            self.assertEqual(Plan.leftmost(way.mirrored()).cells, self.turned(way, Plan.rightmost(way).cells))
            self.assertTrue(has_plan(way.mirrored()))


class DocumentTest(Case):
    def test_example(self):
        way = Way(2, 2, 2)
        first, last = Plan.leftmost(way), Plan.rightmost(way)
        self.assertEqual(first.cells, ((0, 1), (0, 0)))
        self.assertEqual(last.cells, ((1, 1), (0, 1)))
        self.assertEqual(first.distance(last), 2)
        self.assertEqual([plan.cells for plan in first.shifts()], [((0, 1), (0, 1)), ((1, 1), (0, 0))])
