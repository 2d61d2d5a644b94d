"""Module passplaces.ways: points [1] to [4], [10], [14] and [25]."""

import random

from passplaces.errors import InvalidPlaces, InvalidWalker, InvalidWay
from passplaces.ways import Way, conditions
from tests.helpers import Case, many_parts, not_numbers, other_kinds
from tests.slow import pairs_of, random_way, slow_conditions, small_ways

SIZES = [(m, n, k) for m in range(1, 7) for n in range(1, 7) for k in range(1, 13)]


def seen(way):
    """All properties of a way."""
    return (way.rights, way.lefts, way.places, way.table)


class CreateTest(Case):
    def test_class_values(self):
        self.assertEqual((Way.MAX_WALKERS, Way.MAX_PLACES), (6, 12))
        way = Way(1, 1, 1)
        self.assertEqual((way.MAX_WALKERS, way.MAX_PLACES), (6, 12))

    def test_every_size(self):
        made = [Way(*size) for size in SIZES]
        # They are read only now, after all the others were made.
        for (m, n, k), way in zip(SIZES, made):
            table = tuple(tuple(tuple(range(k)) for _ in range(n)) for _ in range(m))
            self.assertEqual(seen(way), (m, n, k, table))
            self.assertEqual(len(way), m * n)
            self.assertIs(type(way.table), tuple)
            self.assertIs(type(way.table[0]), tuple)
            self.assertIs(type(way.table[0][0]), tuple)

    def test_by_name(self):
        self.assertEqual(seen(Way(places=4, lefts=3, rights=2)), seen(Way(2, 3, 4)))
        self.assertEqual(seen(Way(2, lefts=3, places=4)), seen(Way(2, 3, 4)))

    def test_properties_cannot_be_set(self):
        way = Way(2, 2, 2)
        for name in ["rights", "lefts", "places", "table"]:
            with self.assertRaises(AttributeError):
                setattr(way, name, 1)
        self.assertEqual(way, Way(2, 2, 2))

    def test_wrong_rights(self):
        for value in not_numbers(1, 6):
            self.assertEqual(self.failure(InvalidWay, Way, value, 1, 1).part, "rights")

    def test_wrong_lefts(self):
        for value in not_numbers(1, 6):
            self.assertEqual(self.failure(InvalidWay, Way, 1, value, 1).part, "lefts")

    def test_wrong_places(self):
        for value in not_numbers(1, 12):
            self.assertEqual(self.failure(InvalidWay, Way, 1, 1, value).part, "places")

    def test_first_wrong_part(self):
        for value in [0, 13, None, True, many_parts()]:
            self.assertEqual(self.failure(InvalidWay, Way, value, value, value).part, "rights")
            self.assertEqual(self.failure(InvalidWay, Way, value, 1, value).part, "rights")
            self.assertEqual(self.failure(InvalidWay, Way, 1, value, value).part, "lefts")
            self.assertEqual(self.failure(InvalidWay, Way, places=value, lefts=value, rights=6).part, "lefts")

    def test_limits(self):
        self.assertEqual(self.failure(InvalidWay, Way, 7, 6, 12).part, "rights")
        self.assertEqual(self.failure(InvalidWay, Way, 6, 7, 12).part, "lefts")
        self.assertEqual(self.failure(InvalidWay, Way, 6, 6, 13).part, "places")
        self.assertEqual(len(Way(6, 6, 12)), 36)


class SizeTest(Case):
    def test_is_size(self):
        for size in SIZES:
            self.assertIs(Way.is_size(*size), True)
        way = Way(1, 1, 1)
        self.assertIs(way.is_size(6, 6, 12), True)
        self.assertIs(Way.is_size(places=12, rights=6, lefts=6), True)
        self.assertIs(Way.is_size(places=6, rights=6, lefts=12), False)
        self.assertIs(way.is_size(6, 6, 13), False)

    def test_is_no_size(self):
        for value in not_numbers(1, 6):
            self.assertIs(Way.is_size(value, 1, 1), False)
            self.assertIs(Way.is_size(1, value, 1), False)
            self.assertIs(Way.is_size(value, value, value), False)
        for value in not_numbers(1, 12):
            self.assertIs(Way.is_size(1, 1, value), False)

    def test_square(self):
        for walkers in range(1, 7):
            self.assertEqual(seen(Way.square(walkers)), seen(Way(walkers, walkers, walkers)))
            self.assertEqual(Way.square(walkers=walkers), Way(walkers, walkers, walkers))
            self.assertEqual(Way(1, 2, 3).square(walkers), Way(walkers, walkers, walkers))

    def test_wrong_square(self):
        for value in not_numbers(1, 6):
            self.assertEqual(self.failure(InvalidWay, Way.square, value).part, "rights")


class EqualTest(Case):
    def test_equal_ways(self):
        for size in SIZES:
            self.assertTrue(Way(*size) == Way(*size))
            self.assertFalse(Way(*size) != Way(*size))

    def test_other_sizes(self):
        for size in [(2, 3, 4), (3, 2, 4), (2, 3, 3), (2, 2, 4), (1, 6, 4), (6, 1, 4)]:
            for other in [(2, 3, 5), (3, 3, 4), (2, 4, 4), (1, 1, 1)]:
                self.assertFalse(Way(*size) == Way(*other))
                self.assertTrue(Way(*size) != Way(*other))

    def test_other_number_of_places_with_the_same_table(self):
        one, two = Way(1, 1, 3).closing(2), Way(1, 1, 2)
        self.assertEqual(one.table, two.table)
        self.assertFalse(one == two)
        self.assertTrue(one != two)

    def test_other_tables(self):
        way = Way(2, 2, 3)
        for i, j in pairs_of(way):
            self.assertFalse(way == way.closing(1, right=i, left=j))
        self.assertTrue(way.closing(1) == Way(2, 2, 3).closing(1, right=0).closing(1, right=1))

    def test_other_values(self):
        way = Way(2, 2, 2)
        for value in other_kinds() + [way.table, (2, 2, 2), 4]:
            self.assertFalse(way == value)
            self.assertFalse(value == way)
            self.assertTrue(way != value)


class AllowedTest(Case):
    def test_allowed(self):
        chance = random.Random(1)
        for way in small_ways(chance, 40, 10 ** 6) + [random_way(chance, 6, 6, 12, 5)]:
            for i, j in pairs_of(way):
                self.assertEqual(way.allowed(i, j), way.table[i][j])
                self.assertEqual(way.allowed(left=j, right=i), way.table[i][j])

    def test_right_and_left_are_not_exchanged(self):
        way = Way(2, 3, 4).allowing(1, 2, 3)
        self.assertEqual(way.allowed(1, 2), (3,))
        self.assertIs(self.failure(InvalidWalker, way.allowed, 2, 1).value, 2)

    def test_wrong_walkers(self):
        way = Way(2, 3, 2)
        for value in not_numbers(0, 1):
            self.assertTrue(self.failure(InvalidWalker, way.allowed, value, 0).value is value)
        for value in not_numbers(0, 2):
            self.assertTrue(self.failure(InvalidWalker, way.allowed, 0, value).value is value)

    def test_right_is_checked_first(self):
        way = Way(2, 3, 2)
        for one in not_numbers(0, 1):
            for two in [3, None, [0], many_parts()]:
                self.assertTrue(self.failure(InvalidWalker, way.allowed, one, two).value is one)


class AllowingTest(Case):
    def test_any_places_in_any_order(self):
        way = Way(2, 3, 5)
        before = seen(way)
        chance = random.Random(2)
        for _ in range(200):
            i, j = chance.randrange(2), chance.randrange(3)
            places = [chance.randrange(5) for _ in range(chance.randint(1, 8))]
            new = way.allowing(i, j, *places)
            self.assertEqual(new.allowed(i, j), tuple(sorted(set(places))))
            for a, b in pairs_of(way):
                if (a, b) != (i, j):
                    self.assertEqual(new.allowed(a, b), way.allowed(a, b))
            self.assertEqual((new.rights, new.lefts, new.places), (2, 3, 5))
            self.assertEqual(seen(way), before)

    def test_closed_places_are_allowed_again(self):
        way = Way(2, 2, 3).closing(0, 1)
        self.assertEqual(way.allowing(1, 0, 2, 0, 0).table, (((2,), (2,)), ((0, 2), (2,))))

    def test_every_place_alone(self):
        way = Way(6, 6, 12)
        for place in range(12):
            self.assertEqual(way.allowing(5, 5, place).allowed(5, 5), (place,))

    def test_wrong_walkers(self):
        way = Way(2, 3, 2)
        for value in not_numbers(0, 1):
            self.assertTrue(self.failure(InvalidWalker, way.allowing, value, None, None).value is value)
            self.assertTrue(self.failure(InvalidWalker, way.allowing, value, 0).value is value)
        for value in not_numbers(0, 2):
            self.assertTrue(self.failure(InvalidWalker, way.allowing, 0, value, 9).value is value)
            self.assertTrue(self.failure(InvalidWalker, way.allowing, 0, value).value is value)

    def test_wrong_places(self):
        way = Way(2, 3, 2)
        for value in not_numbers(0, 1):
            self.assertTrue(self.failure(InvalidPlaces, way.allowing, 0, 0, value).value is value)
            self.assertTrue(self.failure(InvalidPlaces, way.allowing, 1, 2, 0, 1, value, 7, None).value is value)
        self.assertEqual(way, Way(2, 3, 2))

    def test_without_places(self):
        way = Way(2, 3, 2)
        self.assertIsNone(self.failure(InvalidPlaces, way.allowing, 1, 1).value)
        self.assertIsNone(self.failure(InvalidPlaces, way.allowing, left=2, right=1).value)


class ClosingTest(Case):
    def test_places_of_some_walkers(self):
        chance = random.Random(3)
        for _ in range(300):
            way = random_way(chance, 3, 2, 6, 9)
            before = seen(way)
            places = [chance.randrange(6) for _ in range(chance.randrange(4))]
            right, left = chance.choice([None, 0, 1, 2]), chance.choice([None, 0, 1])
            expected = [list(row) for row in way.table]
            for i, j in pairs_of(way):
                if right in (None, i) and left in (None, j):
                    expected[i][j] = tuple(place for place in way.table[i][j] if place not in places)
            if all(allowed for row in expected for allowed in row):
                new = way.closing(*places, right=right, left=left)
                self.assertEqual(seen(new), (3, 2, 6, tuple(tuple(row) for row in expected)))
            else:
                error = self.failure(InvalidPlaces, way.closing, *places, right=right, left=left)
                self.assertIsNone(error.value)
            self.assertEqual(seen(way), before)

    def test_zero_is_a_walker(self):
        way = Way(2, 2, 2)
        self.assertEqual(way.closing(0, right=0).table, (((1,), (1,)), ((0, 1), (0, 1))))
        self.assertEqual(way.closing(0, left=0).table, (((1,), (0, 1)), ((1,), (0, 1))))
        self.assertEqual(way.closing(0, left=0, right=0).table, (((1,), (0, 1)), ((0, 1), (0, 1))))

    def test_without_places(self):
        way = Way(2, 3, 4).closing(1, right=0)
        self.assertEqual(way.closing(), way)
        self.assertEqual(way.closing(right=1, left=2), way)
        self.assertEqual(way.closing(right=None, left=None), way)

    def test_all_but_one_place(self):
        way = Way(6, 6, 12)
        self.assertEqual(way.closing(*range(11)).table, (((11,),) * 6,) * 6)
        self.assertEqual(way.closing(*range(1, 12), right=5, left=5).allowed(5, 5), (0,))
        self.assertIsNone(self.failure(InvalidPlaces, way.closing, *range(12)).value)
        self.assertIsNone(self.failure(InvalidPlaces, way.closing, *range(12), right=5, left=5).value)

    def test_last_place_of_any_pair(self):
        way = Way(2, 3, 3)
        for i, j in pairs_of(way):
            only = way.allowing(i, j, 1)
            self.assertIsNone(self.failure(InvalidPlaces, only.closing, 1).value)
            self.assertIsNone(self.failure(InvalidPlaces, only.closing, 1, right=i).value)
            self.assertIsNone(self.failure(InvalidPlaces, only.closing, 1, left=j).value)
            self.assertEqual(only.closing(0, 2, right=i, left=j), only)
            self.assertEqual(only.closing(1, right=1 - i).allowed(i, j), (1,))

    def test_equal_places_and_closed_places(self):
        way = Way(1, 2, 3)
        self.assertEqual(way.closing(2, 2, 0, 2), way.closing(0).closing(2))
        self.assertEqual(way.closing(0).closing(0), way.closing(0))

    def test_wrong_walkers(self):
        way = Way(2, 3, 2)
        for value in not_numbers(0, 1):
            if value is not None:
                error = self.failure(InvalidWalker, way.closing, 9, right=value, left=9)
                self.assertTrue(error.value is value)
                self.assertTrue(self.failure(InvalidWalker, way.closing, right=value).value is value)
        for value in not_numbers(0, 2):
            if value is not None:
                self.assertTrue(self.failure(InvalidWalker, way.closing, None, left=value).value is value)
                self.assertTrue(self.failure(InvalidWalker, way.closing, 0, 1, left=value).value is value)

    def test_wrong_places(self):
        way = Way(2, 3, 2)
        for value in not_numbers(0, 1):
            self.assertTrue(self.failure(InvalidPlaces, way.closing, value).value is value)
            self.assertTrue(self.failure(InvalidPlaces, way.closing, 0, 1, value, 5, right=0).value is value)
        self.assertEqual(way, Way(2, 3, 2))

    def test_walkers_must_be_named(self):
        way = Way(2, 2, 2)
        with self.assertRaises(TypeError):
            way.closing(places=(0,))
        self.assertEqual(way.closing(0, 0).table, (((1,), (1,)), ((1,), (1,))))


class MirroredTest(Case):
    def test_mirrored(self):
        chance = random.Random(4)
        for _ in range(60):
            size = (chance.randint(1, 6), chance.randint(1, 6), chance.randint(1, 12))
            way = random_way(chance, *size, chance.randint(1, 9))
            before = seen(way)
            new = way.mirrored()
            m, n, k = size
            self.assertEqual((new.rights, new.lefts, new.places), (n, m, k))
            for i, j in pairs_of(way):
                self.assertEqual(new.allowed(j, i), tuple(sorted(k - 1 - v for v in way.allowed(i, j))))
            self.assertEqual(new.mirrored(), way)
            self.assertEqual(seen(way), before)

    def test_full_ways(self):
        for m, n, k in SIZES:
            self.assertEqual(Way(m, n, k).mirrored(), Way(n, m, k))


class ConditionsTest(Case):
    def test_by_all_pairs_of_pairs(self):
        for m in range(1, 7):
            for n in range(1, 7):
                way = Way(m, n, 3)
                self.assertEqual(list(conditions(way)), slow_conditions(way))
                self.assertEqual(list(conditions(way=way)), slow_conditions(way))

    def test_allowed_places_do_not_matter(self):
        way = Way(3, 3, 4)
        self.assertEqual(list(conditions(way.closing(0, 1, 2))), slow_conditions(way))

    def test_yields_tuples(self):
        for triple in conditions(Way(2, 3, 1)):
            self.assertEqual([type(part) for part in triple], [tuple, tuple, int])
            self.assertIs(type(triple), tuple)

    def test_two_runs_at_the_same_time(self):
        way = Way(3, 2, 2)
        pairs = list(zip(conditions(way), conditions(way)))
        self.assertEqual([one for one, _ in pairs], slow_conditions(way))
        self.assertEqual([two for _, two in pairs], slow_conditions(way))

    def test_one_pair_has_none(self):
        self.assertEqual(list(conditions(Way(1, 1, 12))), [])


class DocumentTest(Case):
    def test_example(self):
        way = Way(2, 2, 3).closing(0, left=1)
        self.assertEqual(way.table, (((0, 1, 2), (1, 2)), ((0, 1, 2), (1, 2))))
        self.assertEqual(list(conditions(way))[0], ((0, 0), (1, 0), 0))
        self.assertEqual(len(way), 4)
        self.assertEqual(way.mirrored().allowed(1, 0), (0, 1))
