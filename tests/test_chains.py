"""has_plan, chain_of and check_chain: points [16] and [22]."""

import random

from passplaces.errors import InvalidChain
from passplaces.plans import chain_of, check_chain, has_plan
from passplaces.ways import Way
from tests.helpers import Case, many_parts, not_numbers, other_kinds
from tests.slow import (
    all_ways, pairs_of, random_way, slow_chain_fault, slow_chains, slow_least, slow_plans, small_ways,
)

CHAIN = (((1, 0), 0), ((0, 1), None))


def ways_without_plan(seed, many):
    """Random small ways that have no plan."""
    chance = random.Random(seed)
    found = []
    while len(found) < many:
        found.extend(way for way in small_ways(chance, 20, 10 ** 9) if slow_least(way) is None)
    return found[:many]


class ExistenceTest(Case):
    def check(self, way):
        is_possible = slow_plans(way) != []
        chain = chain_of(way)
        self.assertIs(has_plan(way), is_possible)
        self.assertEqual(chain is None, is_possible)
        if chain is not None:
            self.assertIs(type(chain), tuple)
            self.assertEqual(slow_chain_fault(way, chain), -1)
            self.assertIsNone(check_chain(way, chain))

    def test_all_small_ways(self):
        for size in [(1, 1, 3), (1, 2, 3), (2, 1, 3), (1, 3, 2), (3, 1, 2), (2, 2, 2)]:
            for way in all_ways(*size):
                self.check(way)

    def test_many_small_ways(self):
        possible = 0
        for way in small_ways(random.Random(5), 600, 3000):
            self.check(way)
            possible += has_plan(way)
        self.assertGreater(possible, 100)
        self.assertLess(possible, 500)

    def test_full_ways(self):
        for m in range(1, 7):
            for n in range(1, 7):
                for k in range(1, 13):
                    way = Way(m, n, k)
                    self.assertIs(has_plan(way), k >= min(m, n))
                    self.assertEqual(chain_of(way) is None, k >= min(m, n))
                    if chain_of(way) is not None:
                        self.assertEqual(slow_chain_fault(way, chain_of(way)), -1)

    def test_greatest_ways(self):
        chance = random.Random(6)
        possible = 0
        for number in range(120):
            way = random_way(chance, 6, 6, 12, 3 + number % 7)
            expected = slow_least(way) is not None
            possible += expected
            self.assertIs(has_plan(way), expected)
            self.assertEqual(chain_of(way) is None, expected)
            if not expected:
                self.assertEqual(slow_chain_fault(way, chain_of(way)), -1)
                self.assertIsNone(check_chain(way, chain_of(way)))
        self.assertGreater(possible, 10)
        self.assertLess(possible, 110)

    def test_no_chain_where_there_is_a_plan(self):
        for way in small_ways(random.Random(7), 200, 3000):
            self.assertEqual(slow_chains(way) == [], slow_plans(way) != [])

    def test_by_name(self):
        way = Way(2, 2, 1)
        self.assertIs(has_plan(way=way), False)
        self.assertEqual(chain_of(way=way), CHAIN)
        self.assertIsNone(check_chain(chain=CHAIN, way=way))

    def test_ways_stay_as_they_are(self):
        for way in ways_without_plan(8, 20):
            table = way.table
            has_plan(way)
            check_chain(way, chain_of(way))
            self.assertEqual(way.table, table)


class CheckChainTest(Case):
    def test_all_chains_are_accepted(self):
        many = 0
        for way in ways_without_plan(9, 60):
            for chain in slow_chains(way):
                self.assertIsNone(check_chain(way, chain))
                many += 1
        self.assertGreater(many, 100)

    def test_wrong_entry_at_each_index(self):
        for way in ways_without_plan(10, 25):
            for chain in slow_chains(way)[:3]:
                for index in range(len(chain)):
                    self.check_changed(way, chain, index)

    def check_changed(self, way, chain, index):
        pairs = pairs_of(way) + [(-1, 0), (way.rights, 0), (0, -1), (0, way.lefts)]
        for pair in pairs:
            for place in [None, -1, *range(way.places + 1)]:
                changed = chain[:index] + ((pair, place),) + chain[index + 1:]
                expected = slow_chain_fault(way, changed)
                if expected == -1:
                    self.assertIsNone(check_chain(way, changed))
                else:
                    error = self.failure(InvalidChain, check_chain, way, changed)
                    self.assertEqual(error.index, expected)

    def test_shorter_and_longer_chains(self):
        for way in ways_without_plan(11, 40):
            for chain in slow_chains(way)[:5]:
                changes = [chain[:-1], chain[1:], chain + chain[-1:], chain + chain, chain[::-1], chain[:1] + chain]
                for changed in changes:
                    if len(changed) < 2:
                        error = self.failure(InvalidChain, check_chain, way, changed)
                        self.assertIsNone(error.index)
                    elif slow_chain_fault(way, changed) != -1:
                        error = self.failure(InvalidChain, check_chain, way, changed)
                        self.assertEqual(error.index, slow_chain_fault(way, changed))
                    else:
                        self.assertIsNone(check_chain(way, changed))

    def test_ways_with_plans(self):
        # Nothing is a chain there, also not what climbs along conditions.
        way = Way(2, 2, 2)
        self.assertEqual(self.failure(InvalidChain, check_chain, way, CHAIN).index, 1)
        chain = (((1, 0), 0), ((0, 1), 1))
        self.assertEqual(self.failure(InvalidChain, check_chain, way, chain).index, 1)
        self.assertEqual(self.failure(InvalidChain, check_chain, way, chain + (((0, 1), None),)).index, 2)

    def test_last_place_must_be_none(self):
        way = Way(2, 2, 3).allowing(0, 1, 1, 2)
        self.assertEqual(self.failure(InvalidChain, check_chain, way, (((1, 0), 0), ((0, 1), 1))).index, 1)

    def test_none_before_the_end(self):
        way = Way(3, 3, 1)
        chain = (((1, 0), 0), ((0, 1), None), ((0, 2), None))
        self.assertEqual(self.failure(InvalidChain, check_chain, way, chain).index, 1)
        self.assertEqual(self.failure(InvalidChain, check_chain, way, (((1, 0), None), ((0, 1), None))).index, 0)

    def test_first_place_must_be_the_least(self):
        way = Way(2, 2, 2).allowing(0, 1, 0)
        self.assertIsNone(check_chain(way, CHAIN))
        self.assertEqual(self.failure(InvalidChain, check_chain, way, (((1, 0), 1), ((0, 1), None))).index, 0)

    def test_true_is_not_a_number(self):
        way = Way(2, 2, 2).allowing(1, 0, 1)
        self.assertIsNone(check_chain(way, (((1, 0), 1), ((0, 1), None))))
        for chain in [
            (((1, 0), True), ((0, 1), None)),
            (((True, 0), 1), ((0, 1), None)),
            (((1, False), 1), ((0, 1), None)),
        ]:
            self.assertEqual(self.failure(InvalidChain, check_chain, way, chain).index, 0)
        for pair in [(0, True), (False, 1)]:
            chain = (((1, 0), 1), (pair, None))
            self.assertEqual(self.failure(InvalidChain, check_chain, way, chain).index, 1)

    def test_lists_in_place_of_tuples(self):
        way = Way(2, 2, 1)
        self.assertIsNone(self.failure(InvalidChain, check_chain, way, list(CHAIN)).index)
        for index, entry in [
            (0, [(1, 0), 0]), (0, ([1, 0], 0)), (0, ((1, 0), [0])),
            (1, [(0, 1), None]), (1, ([0, 1], None)), (1, ((0, 1), [])), (1, ((0, 1), ())),
        ]:
            chain = CHAIN[:index] + (entry,) + CHAIN[index + 1:]
            self.assertEqual(self.failure(InvalidChain, check_chain, way, chain).index, index)

    def check_wrong(self, way, chain):
        expected = None
        if isinstance(chain, tuple) and len(chain) > 1:
            expected = slow_chain_fault(way, chain)
            self.assertNotEqual(expected, -1)
        self.assertEqual(self.failure(InvalidChain, check_chain, way, chain).index, expected)

    def test_any_value_as_chain(self):
        way = Way(2, 2, 1)
        for value in other_kinds() + [0, 1, -1, 10 ** 998, (CHAIN[0],), (CHAIN,), {0: CHAIN[0], 1: CHAIN[1]}]:
            self.check_wrong(way, value)

    def test_any_value_as_entry(self):
        way = Way(2, 2, 1)
        for value in other_kinds() + [0, 1, 10 ** 998]:
            self.check_wrong(way, (value, CHAIN[1]))
            self.check_wrong(way, (CHAIN[0], value))
            self.check_wrong(way, (value, value))

    def test_any_value_as_part_of_an_entry(self):
        way = Way(2, 2, 1)
        for value in not_numbers(0, 1):
            for entry in [((1, 0), value), (value, 0), ((value, 0), 0), ((1, value), 0), ((1, 0), 0, value)]:
                self.check_wrong(way, (entry, CHAIN[1]))
            for entry in [(value, None), ((value, 1), None), ((0, value), None), ((0, 1), None, value)]:
                self.check_wrong(way, (CHAIN[0], entry))
            if value is not None:
                self.check_wrong(way, (CHAIN[0], ((0, 1), value)))

    def test_long_values(self):
        way = Way(6, 6, 5)
        chain = chain_of(way)
        self.assertIsNone(check_chain(way, chain))
        self.assertEqual(self.failure(InvalidChain, check_chain, way, chain * 10000).index, len(chain) - 1)
        self.assertEqual(self.failure(InvalidChain, check_chain, way, (many_parts(),) * 10000).index, 0)

    def test_document_example(self):
        self.assertEqual(chain_of(Way(2, 2, 1)), CHAIN)
