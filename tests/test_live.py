"""The class LiveWay, point [50]: changes, undo, limits and copies."""

import random

from passplaces.errors import InvalidPlaces, InvalidWalker, LimitExceeded, NothingToUndo
from passplaces.live import Guide, LiveWay
from passplaces.plans import Plan, has_plan
from passplaces.ways import Way
from tests.helpers import Case, many_parts, not_numbers
from tests.slow import random_way, slow_least, small_ways
from tests.slow_live import SlowLive, performed, random_change

ERRORS = {"walker": InvalidWalker, "places": InvalidPlaces, "limit": LimitExceeded}


def seen(live):
    """All that can be read of a live way; it holds no object that the live way could change."""
    parts = (live.way, live.log, len(live), live.is_passable, list(live.ways()))
    if isinstance(live, Guide):
        return parts + (live.course, live.moves)
    return parts


def full(kind, way=None):
    """A live way or guide with 200 changes."""
    live = kind(way or Way(2, 2, 3))
    for _ in range(100):
        live.close(0)
        live.allow(0, 0, 1, 2)
    return live


class LiveCase(Case):
    def check_same(self, live, slow):
        self.assertEqual(live.way, slow.way)
        self.assertEqual(live.log, tuple(slow.log))
        self.assertEqual(len(live), len(slow.log))
        self.assertIs(live.is_passable, slow_least(slow.way) is not None)
        self.assertEqual([way.table for way in live.ways()], slow.tables)

    def check_error(self, expected, function, *args, **kwargs):
        """The call raises the error of a slow record, with the very value."""
        kind, value = expected
        error = self.failure(ERRORS[kind], function, *args, **kwargs)
        if kind == "limit":
            self.assertEqual(error.limit, value)
        else:
            self.assertTrue(error.value is value)


class ChangeTest(LiveCase):
    def test_the_limit(self):
        self.assertEqual(LiveWay.MAX_CHANGES, 200)
        self.assertEqual(LiveWay(Way(1, 1, 1)).MAX_CHANGES, 200)
        self.assertEqual(Guide.MAX_CHANGES, 200)

    def test_beginning(self):
        for way in [Way(2, 3, 4), Way(2, 2, 1), Way(2, 2, 3).closing(1, left=0), Way(6, 6, 12)]:
            live = LiveWay(way=way)
            self.assertEqual(live.way, way)
            self.assertEqual(live.log, ())
            self.assertIs(type(live.log), tuple)
            self.assertEqual(len(live), 0)
            self.assertIs(live.is_passable, has_plan(way))
            self.assertEqual(list(live.ways()), [way])

    def test_close(self):
        live = LiveWay(Way(2, 2, 3))
        self.assertIsNone(live.close(0))
        self.assertEqual(live.way, Way(2, 2, 3).closing(0))
        self.assertIsNone(live.close(2, right=1))
        self.assertIsNone(live.close(2, left=1, right=0))
        self.assertEqual(live.way, Way(2, 2, 3).closing(0).closing(2, right=1).closing(2, right=0, left=1))
        log = (("close", (0,), None, None), ("close", (2,), 1, None), ("close", (2,), 0, 1))
        self.assertEqual(live.log, log)
        self.assertEqual(len(live), 3)

    def test_allow(self):
        live = LiveWay(Way(2, 2, 3))
        self.assertIsNone(live.allow(0, 1, 2, 0))
        self.assertIsNone(live.allow(1, 1, 1))
        self.assertEqual(live.way, Way(2, 2, 3).allowing(0, 1, 0, 2).allowing(1, 1, 1))
        self.assertEqual(live.log, (("allow", 0, 1, (2, 0)), ("allow", 1, 1, (1,))))
        live.allow(0, 1, 0, 1, 2)
        self.assertEqual(live.way.allowed(0, 1), (0, 1, 2))

    def test_places_are_logged_as_they_were_passed(self):
        live = LiveWay(Way(2, 2, 4))
        live.close(3, 0, 3)
        live.close()
        live.close(right=0)
        live.allow(1, 0, 2, 1, 2, 2)
        log = (("close", (3, 0, 3), None, None), ("close", (), None, None), ("close", (), 0, None))
        self.assertEqual(live.log, log + (("allow", 1, 0, (2, 1, 2, 2)),))
        self.assertEqual(live.way.allowed(1, 0), (1, 2))
        for change in live.log:
            self.assertIs(type(change), tuple)
            self.assertIs(type(change[1] if change[0] == "close" else change[3]), tuple)

    def test_closing_nothing_is_a_change(self):
        live = LiveWay(Way(1, 1, 2))
        live.close()
        self.assertEqual((live.way, len(live)), (Way(1, 1, 2), 1))
        live.close(0)
        live.close(0)
        self.assertEqual(len(live), 3)

    def test_by_name(self):
        live = LiveWay(Way(2, 3, 3))
        live.close(1, left=2, right=0)
        # Both walkers by name leave no way to pass places.
        self.assertIsNone(self.failure(InvalidPlaces, live.allow, left=2, right=0).value)
        self.assertEqual(self.failure(InvalidWalker, live.allow, left=0, right=2).value, 2)
        self.assertEqual(live.without(0, left=2, right=0).cells[0][2], 2)
        self.assertEqual(live.log, (("close", (1,), 0, 2),))

    def test_properties_cannot_be_set(self):
        live = LiveWay(Way(1, 1, 1))
        for name in ["way", "log", "is_passable"]:
            with self.assertRaises(AttributeError):
                setattr(live, name, 1)

    def test_way_stays_as_it_is(self):
        way = Way(2, 2, 3)
        table = way.table
        live = LiveWay(way)
        live.close(0)
        between = live.way
        live.allow(0, 0, 0)
        self.assertEqual(way.table, table)
        self.assertEqual(between, way.closing(0))

    def check_drawn(self, chance, live, many):
        """Drawn changes and undos, compared with a slow record after each of them."""
        slow = SlowLive(live.way)
        size = slow.size
        for _ in range(many):
            if chance.randrange(4) == 0:
                self.check_undo(live, slow)
            else:
                change = random_change(chance, size, 5)
                expected = slow.change(change)
                if expected is None:
                    self.assertIsNone(performed(live, change))
                else:
                    self.check_error(expected, performed, live, change)
            self.check_same(live, slow)
        for _ in range(len(slow.log) + 1):
            self.check_undo(live, slow)
            self.check_same(live, slow)

    def check_undo(self, live, slow):
        if slow.log:
            slow.undo()
            self.assertIsNone(live.undo())
        else:
            self.failure(NothingToUndo, live.undo)

    def test_drawn_changes(self):
        chance = random.Random(41)
        for way in small_ways(chance, 60, 10 ** 9):
            self.check_drawn(chance, LiveWay(way), 40)

    def test_drawn_changes_of_great_ways(self):
        chance = random.Random(42)
        for way in [Way(6, 6, 12), random_way(chance, 6, 6, 12, 6), Way(1, 6, 12)]:
            self.check_drawn(chance, LiveWay(way), 30)


class WaysTest(LiveCase):
    def test_ways(self):
        way = Way(2, 2, 3)
        live = LiveWay(way)
        live.close(0)
        live.allow(0, 0, 0, 1)
        live.close(2, left=1)
        self.assertEqual(list(live.ways()), [
            way, way.closing(0), way.closing(0).allowing(0, 0, 0, 1),
            way.closing(0).allowing(0, 0, 0, 1).closing(2, left=1),
        ])
        live.undo()
        self.assertEqual(len(list(live.ways())), 3)
        self.assertEqual(list(live.ways())[-1], live.way)

    def test_ways_while_the_live_way_changes(self):
        live = LiveWay(Way(2, 2, 3))
        live.close(0)
        live.close(1, left=0)
        found = []
        for way in live.ways():
            found.append(way)
            live.undo()
            live.close(2)
        self.assertEqual(found, [Way(2, 2, 3), Way(2, 2, 3).closing(0), Way(2, 2, 3).closing(0).closing(1, left=0)])

    def test_two_runs_at_the_same_time(self):
        live = LiveWay(Way(2, 2, 3))
        live.close(0)
        both = [(one, two) for one in live.ways() for two in live.ways()]
        expected = [Way(2, 2, 3), Way(2, 2, 3).closing(0)]
        self.assertEqual(both, [(one, two) for one in expected for two in expected])


class ErrorTest(LiveCase):
    def lives(self):
        found = [LiveWay(Way(2, 3, 3)), Guide(Way(2, 3, 3)), LiveWay(Way(2, 2, 1))]
        for live in list(found):
            twin = live.copy()
            twin.close()
            twin.allow(0, 0, 0)
            found.append(twin)
        return found + [full(LiveWay), full(Guide)]

    def check_unchanged(self, live, before, expected, function, *args, **kwargs):
        self.check_error(expected, function, *args, **kwargs)
        self.assertEqual(seen(live), before)

    def test_any_walker(self):
        for live in self.lives():
            before = seen(live)
            for value in not_numbers(0, live.way.rights - 1):
                expected = ("walker", value)
                self.check_unchanged(live, before, expected, live.allow, value, 0, 0)
                self.check_unchanged(live, before, expected, live.allow, value, None)
                if value is not None:
                    self.check_unchanged(live, before, expected, live.close, 0, right=value)
                    self.check_unchanged(live, before, expected, live.without, right=value, left=True)
            for value in not_numbers(0, live.way.lefts - 1):
                expected = ("walker", value)
                self.check_unchanged(live, before, expected, live.allow, 0, value, 0)
                self.check_unchanged(live, before, expected, live.allow, 1, value, None)
                if value is not None:
                    self.check_unchanged(live, before, expected, live.close, 99, left=value)
                    self.check_unchanged(live, before, expected, live.without, right=0, left=value)

    def test_any_place(self):
        for live in self.lives():
            before = seen(live)
            for value in not_numbers(0, live.way.places - 1):
                expected = ("places", value)
                self.check_unchanged(live, before, expected, live.close, value)
                self.check_unchanged(live, before, expected, live.close, 0, value, -1, right=0, left=1)
                self.check_unchanged(live, before, expected, live.without, 0, value, -1)
                self.check_unchanged(live, before, expected, live.allow, 0, 0, value)
                self.check_unchanged(live, before, expected, live.allow, 0, 0, 0, value, None)

    def test_no_places(self):
        for live in self.lives():
            before = seen(live)
            every = range(live.way.places)
            self.check_unchanged(live, before, ("places", None), live.allow, 0, 0)
            self.check_unchanged(live, before, ("places", None), live.close, *every)
            self.check_unchanged(live, before, ("places", None), live.close, *every, left=1)
            self.check_unchanged(live, before, ("places", None), live.without, *every, right=0)
            self.check_unchanged(live, before, ("places", every[-1] + 1), live.close, *every, every[-1] + 1)

    def test_first_error(self):
        live = LiveWay(Way(2, 2, 2))
        wrong = many_parts()
        self.check_error(("walker", wrong), live.close, wrong, right=wrong, left=0)
        self.check_error(("walker", 2), live.close, wrong, right=2, left=wrong)
        self.check_error(("walker", wrong), live.close, 5, right=1, left=wrong)
        self.check_error(("places", wrong), live.close, 0, 1, wrong, right=1, left=1)
        self.check_error(("places", 7), live.close, 0, 1, 7, wrong)
        self.check_error(("walker", wrong), live.allow, wrong, None)
        self.check_error(("walker", None), live.allow, 1, None, wrong)
        self.check_error(("places", True), live.allow, 1, 1, 0, True, wrong)

    def test_drawn_errors(self):
        chance = random.Random(43)
        values = [None, True, False, -1, 0, 1, 2, 3, 10 ** 998, "0", (0,), [1], many_parts()]
        for way in small_ways(chance, 40, 10 ** 9):
            live, slow = LiveWay(way), SlowLive(way)
            for _ in range(40):
                some = tuple(chance.choice(values[1:8]) for _ in range(chance.randint(0, 3)))
                some += (chance.choice(values),) * chance.randint(0, 1)
                one, two = chance.choice(values), chance.choice(values)
                change = chance.choice([("close", some, one, two), ("allow", one, two, some)])
                expected = slow.change(change)
                if expected is None:
                    self.assertIsNone(performed(live, change))
                else:
                    self.check_error(expected, performed, live, change)
                self.check_same(live, slow)

    def test_any_change_of_a_way_without_undo(self):
        live = LiveWay(Way(2, 2, 2))
        self.failure(NothingToUndo, live.undo)
        self.failure(InvalidPlaces, live.close, 2)
        self.failure(NothingToUndo, live.undo)
        self.assertEqual(seen(live), seen(LiveWay(Way(2, 2, 2))))


class LimitTest(LiveCase):
    def test_exactly_200(self):
        for kind in [LiveWay, Guide]:
            live = full(kind)
            self.assertEqual(len(live), 200)
            self.assertEqual(len(list(live.ways())), 201)
            before = seen(live)
            for change in [("close", (2,), None, None), ("close", (), 0, 1), ("allow", 0, 0, (1,))]:
                self.assertEqual(self.failure(LimitExceeded, performed, live, change).limit, 200)
                self.assertEqual(seen(live), before)
            self.assertEqual(self.failure(LimitExceeded, live.without, 2).limit, 200)
            self.assertEqual(self.failure(LimitExceeded, live.without).limit, 200)
            self.assertEqual(seen(live), before)

    def test_the_errors_of_closing_and_allowing_come_first(self):
        for kind in [LiveWay, Guide]:
            live = full(kind)
            wrong = many_parts()
            for function in [live.close, live.without]:
                self.check_error(("walker", wrong), function, right=wrong)
                self.check_error(("walker", 2), function, wrong, left=2)
                self.check_error(("places", wrong), function, wrong)
                self.check_error(("places", None), function, 1, 2)
            self.check_error(("walker", wrong), live.allow, wrong, 0)
            self.check_error(("walker", 2), live.allow, 0, 2)
            self.check_error(("places", wrong), live.allow, 0, 0, wrong)
            self.check_error(("places", None), live.allow, 0, 0)
            self.assertEqual(len(live), 200)

    def test_undo_makes_room_again(self):
        for kind in [LiveWay, Guide]:
            live = full(kind)
            live.undo()
            self.assertEqual(len(live), 199)
            self.assertEqual(live.without(2, left=0, right=1).place(1, 0), 1)
            self.assertIsNone(live.close(2, right=1, left=0))
            self.failure(LimitExceeded, live.close)
            self.assertEqual(live.log[-1], ("close", (2,), 1, 0))
            for _ in range(200):
                self.assertIsNone(live.undo())
            self.failure(NothingToUndo, live.undo)
            self.assertEqual((live.way, live.log), (Way(2, 2, 3), ()))
            live.close(0)
            self.assertEqual(len(live), 1)

    def test_failed_changes_take_no_room(self):
        live = LiveWay(Way(1, 1, 2))
        for _ in range(300):
            self.failure(InvalidPlaces, live.close, 0, 1)
        for _ in range(200):
            live.close()
        self.failure(LimitExceeded, live.close)

    def test_a_full_great_way(self):
        chance = random.Random(44)
        live, slow = LiveWay(Way(6, 6, 12)), SlowLive(Way(6, 6, 12))
        while len(slow.log) < 200:
            change = random_change(chance, slow.size, 9)
            if slow.change(change) is None:
                performed(live, change)
        self.check_same(live, slow)
        self.failure(LimitExceeded, live.close)


class WithoutTest(LiveCase):
    def test_small_ways(self):
        chance = random.Random(45)
        for way in small_ways(chance, 150, 10 ** 9):
            for live in [LiveWay(way), Guide(way)]:
                for _ in range(6):
                    self.check_one(chance, live)

    def check_one(self, chance, live):
        """without is compared with close of a slow record, and with close itself."""
        size = (live.way.rights, live.way.lefts, live.way.places)
        _, places, right, left = random_change(chance, size, 0)
        slow = SlowLive(live.way)
        before = seen(live)
        expected = slow.change(("close", places, right, left))
        if expected is not None:
            self.check_error(expected, live.without, *places, right=right, left=left)
            self.assertEqual(seen(live), before)
            return
        found = live.without(*places, right=right, left=left)
        self.assertEqual(seen(live), before)
        least = slow_least(slow.way)
        if least is None:
            self.assertIsNone(found)
        else:
            self.assertEqual(found, Plan(slow.way, least))
        twin = live.copy()
        twin.close(*places, right=right, left=left)
        self.assertEqual(twin.way, slow.way)
        self.assertEqual(found, Plan.leftmost(twin.way) if twin.is_passable else None)

    def test_nothing_closed(self):
        live = LiveWay(Way(2, 2, 2))
        self.assertEqual(live.without(), Plan.leftmost(Way(2, 2, 2)))
        self.assertIsNone(LiveWay(Way(2, 2, 1)).without())
        self.assertIsNone(live.without(0))
        self.assertEqual(live.log, ())


class CopyTest(LiveCase):
    def test_copies_at_every_point(self):
        chance = random.Random(46)
        for kind in [LiveWay, Guide]:
            for way in small_ways(chance, 25, 10 ** 9):
                live = kind(way)
                for _ in range(12):
                    self.check_copy(chance, live)
                    self.change(chance, live)

    def change(self, chance, live):
        if len(live) and chance.randrange(3) == 0:
            live.undo()
            return
        size = (live.way.rights, live.way.lefts, live.way.places)
        change = random_change(chance, size, 5)
        if SlowLive(live.way).change(change) is None:
            performed(live, change)

    def check_copy(self, chance, live):
        twin = live.copy()
        before = seen(live)
        self.assertIs(type(twin), type(live))
        self.assertTrue(twin == live)
        self.assertFalse(twin != live)
        self.assertEqual(seen(twin), before)
        # Changes on one side have no effect on the other one.
        for one, two in [(twin, live), (live.copy(), twin), (live.copy(), live)]:
            kept = seen(two)
            for _ in range(4):
                self.change(chance, one)
            self.assertEqual(seen(two), kept)
        # The same changes make the same of a copy.
        again = live.copy()
        for other in [again, live]:
            other.close()
            other.allow(0, 0, 0)
        self.assertEqual(seen(again), seen(live))
        live.undo()
        live.undo()

    def test_a_copy_can_be_undone_to_the_beginning(self):
        live = LiveWay(Way(2, 2, 3))
        live.close(0)
        live.allow(0, 0, 1)
        twin = live.copy()
        self.assertEqual(list(twin.ways()), list(live.ways()))
        twin.undo()
        twin.undo()
        self.failure(NothingToUndo, twin.undo)
        self.assertEqual((twin.way, twin.log), (Way(2, 2, 3), ()))
        self.assertEqual(len(live), 2)

    def test_a_full_copy(self):
        for kind in [LiveWay, Guide]:
            twin = full(kind).copy()
            self.failure(LimitExceeded, twin.close)
            twin.undo()
            twin.close()
            self.assertEqual(len(twin), 200)


class EqualTest(LiveCase):
    def test_equal_live_ways(self):
        one, two = LiveWay(Way(2, 2, 3)), LiveWay(Way(2, 2, 3))
        self.assertTrue(one == two)
        self.assertFalse(one != two)
        one.close(0)
        self.assertFalse(one == two)
        self.assertTrue(one != two)
        two.close(0)
        self.assertTrue(one == two)
        one.undo()
        two.undo()
        self.assertTrue(one == two)

    def test_equal_ways_with_other_logs(self):
        one, two = LiveWay(Way(2, 2, 3)), LiveWay(Way(2, 2, 3).closing(0))
        one.close(0)
        self.assertEqual(one.way, two.way)
        self.assertFalse(one == two)
        two.close(0, 0)
        self.assertFalse(one == two)
        two.undo()
        two.close(0)
        # The ways before do not count, only the current ways and the logs.
        self.assertNotEqual(list(one.ways()), list(two.ways()))
        self.assertTrue(one == two)

    def test_other_ways_with_equal_logs(self):
        one, two = LiveWay(Way(2, 2, 3)), LiveWay(Way(2, 2, 4))
        self.assertFalse(one == two)
        one.close(0)
        two.close(0)
        self.assertFalse(one == two)

    def test_logs_differ_in_each_part(self):
        changes = [
            ("close", (1,), None, None), ("close", (1,), 0, None), ("close", (1,), None, 0),
            ("close", (1, 1), None, None), ("close", (), None, None), ("close", (1,), 0, 0),
            ("allow", 0, 0, (0,)), ("allow", 0, 0, (0, 0)),
        ]
        way = Way(1, 1, 2)
        lives = []
        for change in changes:
            live = LiveWay(way)
            performed(live, change)
            lives.append(live)
        for one, first in enumerate(lives):
            for two, second in enumerate(lives):
                self.assertEqual(first == second, one == two)

    def test_other_values(self):
        for kind in [LiveWay, Guide]:
            live = kind(Way(2, 2, 2))
            others = [None, 0, True, (), [], "way", live.way, live.log, object(), kind, many_parts()]
            for other in others + [Plan.leftmost(live.way)]:
                self.assertFalse(live == other)
                self.assertFalse(other == live)
                self.assertTrue(live != other)

    def test_a_live_way_and_a_guide(self):
        live, guide = LiveWay(Way(2, 2, 3)), Guide(Way(2, 2, 3))
        for change in [None, ("close", (0,), None, None), ("allow", 1, 1, (2,))]:
            if change is not None:
                performed(live, change)
                performed(guide, change)
            self.assertEqual((live.way, live.log), (guide.way, guide.log))
            self.assertFalse(live == guide)
            self.assertFalse(guide == live)
            self.assertTrue(live != guide)
            self.assertTrue(guide != live)
            self.assertFalse(LiveWay.__eq__(live, guide))
            self.assertFalse(Guide.__eq__(guide, live))

    def test_empty_live_ways_are_found(self):
        live = LiveWay(Way(2, 2, 2))
        self.assertIn(live, [Guide(Way(2, 2, 2)), LiveWay(Way(2, 2, 2))])
        self.assertNotIn(live, [Guide(Way(2, 2, 2)), Way(2, 2, 2), None])
