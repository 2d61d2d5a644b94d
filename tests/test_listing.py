"""Module passplaces.listing: points [21] to [25] and [30]."""

import random
from itertools import product

from passplaces import listing
from passplaces.errors import InvalidNumber, LimitExceeded
from passplaces.listing import count_plans, plan_by_rank, plans, rank_of
from passplaces.plans import Plan
from passplaces.ways import Way
from tests.helpers import Case, many_parts, not_numbers
from tests.slow import bound_table, pairs_of, random_way, slow_least, slow_plans, small_ways
from tests.slow_walks import slow_count, way_of

# Ways with exactly 500 plans; the bits of the numbers are the allowed places.
WITH_500 = [
    (Way(1, 6, 12), [[3566, 1788, 3898, 2285, 2743, 1522]]),
    (Way(6, 1, 12), [[2653], [1358], [2972], [1918], [2428], [3942]]),
    (Way(2, 2, 12), [[1772, 1326], [1023, 2943]]),
    (Way(3, 3, 6), [[13, 63, 33], [45, 59, 55], [46, 63, 63]]),
    (Way(2, 4, 7), [[70, 41, 111, 127], [61, 111, 79, 86]]),
    (Way(6, 6, 12), [
        [1681, 2687, 2998, 1192, 183, 2260], [3442, 2123, 169, 253, 712, 2017],
        [3091, 2053, 725, 1604, 2135, 1212], [1153, 3645, 297, 1725, 2767, 1684],
        [2515, 1748, 2260, 2736, 3768, 3098], [3859, 919, 2569, 3625, 2105, 1025],
    ]),
]

WITH_501 = [
    (Way(1, 6, 12), [[3439, 3519, 3826, 3285, 1621, 764]]),
    (Way(6, 1, 12), [[892], [2999], [962], [2746], [1623], [3933]]),
    (Way(2, 2, 12), [[1787, 4076], [3956, 3007]]),
    (Way(3, 3, 6), [[53, 27, 41], [55, 43, 56], [57, 7, 46]]),
    (Way(2, 4, 7), [[108, 42, 57, 116], [125, 117, 45, 118]]),
]


def great_with_501():
    """A way of the greatest size: a way with 501 plans beside pairs with one place each."""
    small = way_of(*WITH_501[3])
    way = Way(6, 6, 12)
    for (i, j), place in zip(pairs_of(way), [min(j, 5 - i) for i, j in pairs_of(way)]):
        if i < 3 and j > 2:
            way = way.allowing(i, j, *[6 + one for one in small.allowed(i, j - 3)])
        else:
            way = way.allowing(i, j, place)
    return way


def full_ways():
    return [way_of(*one) for one in WITH_500]


def overfull_ways():
    return [way_of(*one) for one in WITH_501] + [great_with_501()]


class SmallWaysTest(Case):
    def check(self, way):
        tables = slow_plans(way)
        if len(tables) > 500:
            return
        self.assertEqual(count_plans(way), len(tables))
        found = list(plans(way))
        self.assertEqual([plan.cells for plan in found], tables)
        for plan in found:
            self.assertIs(type(plan), Plan)
            self.assertEqual(plan.way, way)
        for rank in {0, 1, len(tables) // 2, len(tables) - 1} & set(range(len(tables))):
            self.check_rank(way, rank, tables[rank])
        for rank in [-1, len(tables), len(tables) + 1]:
            self.assertTrue(self.failure(InvalidNumber, plan_by_rank, way, rank).value is rank)

    def check_rank(self, way, rank, cells):
        self.assertEqual(plan_by_rank(way, rank), Plan(way, cells))
        self.assertEqual(rank_of(Plan(way.mirrored().mirrored(), cells)), rank)

    def test_drawn_ways(self):
        for way in small_ways(random.Random(71), 400, 3000):
            self.check(way)

    def test_full_ways(self):
        for m, n, k in product(range(1, 4), range(1, 4), range(1, 5)):
            if k ** (m * n) <= 20000:
                self.check(Way(m, n, k))

    def test_every_rank(self):
        for way in [Way(2, 2, 4), Way(1, 3, 5), Way(3, 1, 5), Way(2, 3, 3).closing(1, left=1)]:
            for rank, cells in enumerate(slow_plans(way)):
                self.check_rank(way, rank, cells)

    def test_one_pair(self):
        self.assertEqual([plan.cells for plan in plans(Way(1, 1, 12))], [((place,),) for place in range(12)])

    def test_by_name(self):
        way = Way(2, 2, 2)
        self.assertEqual(count_plans(way=way), 4)
        self.assertEqual([plan.cells for plan in plans(way=way)], slow_plans(way))
        plan = plan_by_rank(rank=2, way=way)
        self.assertEqual(plan.cells, slow_plans(way)[2])
        self.assertEqual(rank_of(plan=plan), 2)

    def test_ways_without_plans(self):
        many = 0
        for way in [Way(2, 2, 1), Way(6, 6, 5)] + small_ways(random.Random(72), 300, 10 ** 9):
            if slow_least(way) is None:
                many += 1
                self.assertEqual(count_plans(way), 0)
                self.assertEqual(list(plans(way)), [])
                for rank in [0, -1, 1]:
                    self.assertTrue(self.failure(InvalidNumber, plan_by_rank, way, rank).value is rank)
        self.assertGreater(many, 50)

    def test_one_plan(self):
        way = Way(6, 6, 6)
        rigid = way.closing()
        for i, j in pairs_of(way):
            rigid = rigid.allowing(i, j, slow_least(way)[i][j])
        self.assertEqual(count_plans(rigid), 1)
        self.assertEqual([plan.cells for plan in plans(rigid)], [slow_least(way)])
        self.assertEqual(rank_of(Plan.rightmost(rigid)), 0)
        self.assertEqual(plan_by_rank(rigid, 0), Plan.leftmost(rigid))

    def test_ways_stay_as_they_are(self):
        way = Way(2, 2, 3).closing(1, right=1)
        table = way.table
        list(plans(way))
        plan_by_rank(way, 0)
        self.assertEqual(way.table, table)


class LimitTest(Case):
    def check_limit(self, way):
        """All four functions raise LimitExceeded, plan_by_rank ahead of InvalidNumber."""
        self.assertEqual(self.failure(LimitExceeded, count_plans, way).limit, 500)
        self.assertEqual(self.failure(LimitExceeded, lambda: next(plans(way))).limit, 500)
        self.assertEqual(self.failure(LimitExceeded, rank_of, Plan.leftmost(way)).limit, 500)
        self.assertEqual(self.failure(LimitExceeded, rank_of, Plan.rightmost(way)).limit, 500)
        for rank in [0, 499, 500, 501, -1, True, None, 10 ** 998, [0], many_parts()]:
            self.assertEqual(self.failure(LimitExceeded, plan_by_rank, way, rank).limit, 500)

    def test_the_limit(self):
        self.assertEqual(listing.MAX_LISTED, 500)

    def test_exactly_500(self):
        for way in full_ways():
            self.assertEqual(slow_count(way), 500)
            self.assertEqual(count_plans(way), 500)
            found = [plan.cells for plan in plans(way)]
            self.assertEqual(len(found), 500)
            # 500 different tables of plans in ascending order are all of them.
            self.assertEqual(found, sorted(set(found)))
            for rank in [0, 1, 250, 498, 499]:
                self.assertEqual(plan_by_rank(way, rank).cells, found[rank])
                self.assertEqual(rank_of(Plan(way, found[rank])), rank)
            for rank in [500, 501, -1]:
                self.assertTrue(self.failure(InvalidNumber, plan_by_rank, way, rank).value is rank)

    def test_exactly_501(self):
        for way in overfull_ways():
            self.assertEqual(slow_count(way), 501)
            self.check_limit(way)

    def test_very_many(self):
        for size in [(6, 6, 12), (1, 6, 12), (6, 1, 12), (5, 6, 7), (2, 3, 12), (6, 6, 7)]:
            self.check_limit(Way(*size))
        chance = random.Random(73)
        for way in [random_way(chance, 6, 6, 12, 8) for _ in range(30)]:
            if slow_least(way) is not None:
                self.check_limit(way)

    def test_around_the_limit(self):
        chance = random.Random(74)
        below, beyond = 0, 0
        while below < 40 or beyond < 40:
            size = (chance.randint(1, 4), chance.randint(1, 4), chance.randint(2, 9))
            way = random_way(chance, *size, chance.randint(4, 9))
            many = slow_count(way)
            if 250 < many <= 500:
                below += 1
                self.assertEqual(count_plans(way), many)
                self.assertEqual(len(list(plans(way))), many)
            elif 500 < many < 1000:
                beyond += 1
                self.assertEqual(self.failure(LimitExceeded, count_plans, way).limit, 500)


class NumberTest(Case):
    def test_any_value(self):
        for way in [Way(2, 2, 2), Way(1, 1, 1)] + full_ways()[-1:]:
            for value in not_numbers(0, count_plans(way) - 1):
                self.assertTrue(self.failure(InvalidNumber, plan_by_rank, way, value).value is value)


class RunsTest(Case):
    def test_two_runs_at_the_same_time(self):
        way = Way(2, 2, 3)
        tables = slow_plans(way)
        both = [(one.cells, two.cells) for one, two in zip(plans(way), plans(way))]
        self.assertEqual(both, list(zip(tables, tables)))
        within = [(one.cells, two.cells) for one in plans(way) for two in plans(way)]
        self.assertEqual(within, list(product(tables, repeat=2)))

    def test_stopped_early(self):
        way = Way(2, 2, 3)
        run = plans(way)
        self.assertEqual(next(run).cells, slow_plans(way)[0])
        self.assertEqual(next(run).cells, slow_plans(way)[1])
        run.close()
        self.assertEqual([plan.cells for plan in plans(way)], slow_plans(way))
        self.assertEqual(count_plans(way), len(slow_plans(way)))


class FactsTest(Case):
    def test_extreme_plans(self):
        for way in small_ways(random.Random(75), 150, 3000):
            tables = [plan.cells for plan in plans(way)] if slow_count(way) <= 500 else []
            if tables:
                self.assertEqual(Plan.leftmost(way).cells, bound_table(way, tables, min))
                self.assertEqual(Plan.rightmost(way).cells, bound_table(way, tables, max))
                self.assertEqual(tables[0], Plan.leftmost(way).cells)
                self.assertEqual(tables[-1], Plan.rightmost(way).cells)

    def test_lesser_and_greater_tables_are_listed(self):
        way = Way(2, 3, 3)
        listed = list(plans(way))
        for one, two in product(listed, repeat=2):
            self.assertEqual(plan_by_rank(way, rank_of(one.lowest(two))), one.lowest(two))
            self.assertIn(one.highest(two), listed)

    def test_full_ways_have_plans(self):
        for m, n in product(range(1, 7), range(1, 7)):
            for k in range(1, min(m, n) + 1):
                way = Way(m, n, k)
                if k < min(m, n):
                    self.assertEqual(count_plans(way), 0)
                elif slow_count(way) <= 500:
                    self.assertGreater(count_plans(way), 0)

    def test_shifts_connect_all(self):
        for way in [Way(2, 2, 4), Way(1, 4, 4), Way(2, 3, 3)]:
            listed = list(plans(way))
            ranks = {0}
            waiting = [listed[0]]
            while waiting:
                for other in waiting.pop().shifts():
                    if rank_of(other) not in ranks:
                        ranks.add(rank_of(other))
                        waiting.append(other)
            self.assertEqual(ranks, set(range(len(listed))))

    def test_closed_ways(self):
        chance = random.Random(76)
        for way in small_ways(chance, 150, 400):
            i, j = chance.choice(pairs_of(way))
            if len(way.allowed(i, j)) > 1:
                closed = way.closing(chance.choice(way.allowed(i, j)), right=i, left=j)
                old, new = [plan.cells for plan in plans(way)], [plan.cells for plan in plans(closed)]
                self.assertEqual(new, [cells for cells in old if cells[i][j] in closed.allowed(i, j)])

    def test_mirrored_ways(self):
        for way in small_ways(random.Random(77), 150, 400) + full_ways():
            last = way.places - 1
            turned = [
                tuple(tuple(last - plan.place(i, j) for i in range(way.rights)) for j in range(way.lefts))
                for plan in plans(way)
            ]
            self.assertEqual([plan.cells for plan in plans(way.mirrored())], sorted(turned))


class DocumentTest(Case):
    def test_example(self):
        way = Way(2, 2, 2)
        self.assertEqual(count_plans(way), 4)
        self.assertEqual([plan.cells for plan in plans(way)][:2], [((0, 1), (0, 0)), ((0, 1), (0, 1))])
        self.assertEqual(rank_of(plan_by_rank(way, 3)), 3)
