"""The class LoggedCrossing: its log, and undo."""

import random

from passplaces.crossings import Crossing, LoggedCrossing
from passplaces.errors import InvalidStep, InvalidWalker, NothingToUndo
from passplaces.plans import Plan
from passplaces.ways import Way
from tests.helpers import Case, many_parts
from tests.slow import random_way, small_ways
from tests.slow_walks import SlowWalk, all_steps, walked

MEETING = (("right", 0), ("left", 0), ("meet", 0, 0))


def seen(crossing):
    return (crossing.spots, crossing.cells, crossing.is_over)


class LogTest(Case):
    def test_beginning(self):
        crossing = LoggedCrossing(way=Way(2, 3, 4))
        self.assertEqual(crossing.log, ())
        self.assertIs(type(crossing.log), tuple)
        self.assertEqual(seen(crossing), SlowWalk(Way(2, 3, 4)).seen())
        self.assertEqual(crossing.way, Way(2, 3, 4))

    def test_is_a_crossing(self):
        self.assertEqual(LoggedCrossing.__bases__, (Crossing,))
        self.assertIsInstance(LoggedCrossing(Way(1, 1, 1)), Crossing)

    def test_each_kind_of_step(self):
        crossing = LoggedCrossing(Way(1, 1, 1))
        self.assertIsNone(crossing.go_right(0))
        self.assertEqual(crossing.log, MEETING[:1])
        self.assertIsNone(crossing.go_left(0))
        self.assertEqual(crossing.log, MEETING[:2])
        self.assertIsNone(crossing.meet(0, 0))
        self.assertEqual(crossing.log, MEETING)
        for step in crossing.log:
            self.assertIs(type(step), tuple)

    def test_numbers_are_kept(self):
        crossing = LoggedCrossing(Way(2, 3, 3))
        crossing.go_right(0)
        crossing.go_right(1)
        crossing.go_left(0)
        crossing.go_left(0)
        crossing.go_left(1)
        crossing.go_left(number=2)
        lefts = (("left", 0), ("left", 0), ("left", 1), ("left", 2))
        self.assertEqual(crossing.log, (("right", 0), ("right", 1)) + lefts)

    def test_run(self):
        crossing = LoggedCrossing(Way(1, 1, 1))
        crossing.run(*MEETING)
        self.assertEqual(crossing.log, MEETING)
        crossing.run()
        self.assertEqual(crossing.log, MEETING)
        crossing.run(("left", 0))
        self.assertEqual(crossing.log, MEETING + (("left", 0),))

    def test_failed_steps_are_not_in_the_log(self):
        crossing = LoggedCrossing(Way(1, 1, 1))
        self.failure(InvalidWalker, crossing.go_right, 1)
        self.failure(InvalidWalker, crossing.go_left, many_parts())
        self.failure(InvalidWalker, crossing.meet, 0, None)
        self.failure(InvalidStep, crossing.meet, 0, 0)
        self.failure(InvalidStep, crossing.run, ("right",))
        self.assertEqual(crossing.log, ())
        self.failure(InvalidStep, crossing.run, *MEETING, ("meet", 0, 0), ("left", 0))
        self.assertEqual(crossing.log, MEETING)
        self.failure(InvalidStep, crossing.run, ("right", 0), ("right", 0))
        self.assertEqual(crossing.log, MEETING + (("right", 0),))
        self.failure(InvalidStep, crossing.go_right, 0)
        self.failure(InvalidStep, crossing.meet, 0, 0)
        self.assertEqual(crossing.log, MEETING + (("right", 0),))

    def test_log_cannot_be_set(self):
        crossing = LoggedCrossing(Way(1, 1, 1))
        with self.assertRaises(AttributeError):
            crossing.log = ()

    def test_plan(self):
        crossing = LoggedCrossing(Way(1, 1, 1))
        crossing.run(*MEETING[:2])
        self.assertEqual(self.failure(InvalidStep, crossing.plan).reason, "open")
        crossing.run(*MEETING[2:])
        self.assertEqual(crossing.plan(), Plan(Way(1, 1, 1), ((0,),)))
        self.assertEqual(crossing.log, MEETING)


class UndoTest(Case):
    def test_each_kind_of_step(self):
        way = Way(1, 1, 1)
        crossing = LoggedCrossing(way)
        crossing.run(*MEETING)
        for many in [2, 1, 0]:
            self.assertIsNone(crossing.undo())
            self.assertEqual(crossing.log, MEETING[:many])
            self.assertEqual(seen(crossing), walked(way, MEETING[:many]).seen())

    def test_nothing_to_undo(self):
        way = Way(2, 2, 2)
        crossing = LoggedCrossing(way)
        self.failure(NothingToUndo, crossing.undo)
        self.failure(InvalidStep, crossing.go_right, 1)
        self.failure(NothingToUndo, crossing.undo)
        crossing.go_right(0)
        crossing.undo()
        self.failure(NothingToUndo, crossing.undo)
        self.assertEqual(seen(crossing), SlowWalk(way).seen())
        self.assertEqual(crossing.log, ())
        crossing.go_right(0)
        self.assertEqual(crossing.spots, ((1, 0), (4, 4)))

    def test_an_undone_meeting(self):
        way = Way(2, 2, 2)
        steps = [("right", 0), ("right", 0), ("right", 0), ("left", 0), ("meet", 0, 0)]
        crossing = LoggedCrossing(way)
        crossing.run(*steps)
        self.assertEqual(crossing.cells, ((1, None), (None, None)))
        crossing.undo()
        self.assertEqual(crossing.cells, ((None, None), (None, None)))
        # They have not passed, so they still face each other and can meet again.
        self.assertEqual(self.failure(InvalidStep, crossing.go_left, 0).reason, "facing")
        self.assertIsNone(crossing.meet(0, 0))
        self.assertEqual(crossing.cells, ((1, None), (None, None)))

    def test_only_the_last_meeting_is_undone(self):
        crossing = LoggedCrossing(Way(1, 2, 1))
        crossing.run(("right", 0), ("left", 0), ("meet", 0, 0), ("left", 0), ("left", 1), ("meet", 0, 1))
        self.assertEqual(crossing.plan().cells, ((0, 0),))
        crossing.undo()
        self.assertEqual(crossing.cells, ((0, None),))
        self.assertEqual(self.failure(InvalidStep, crossing.plan).reason, "open")

    def test_undone_steps_are_not_possible_for_others(self):
        # A step that is undone goes back, where going on is not possible.
        crossing = LoggedCrossing(Way(1, 1, 1))
        crossing.run(*MEETING, ("right", 0), ("left", 0))
        self.assertIs(crossing.is_over, True)
        crossing.undo()
        self.assertIs(crossing.is_over, False)
        self.assertEqual(crossing.spots, ((2,), (1,)))
        crossing.undo()
        self.assertEqual(crossing.spots, ((1,), (1,)))

    def check_drawn(self, chance, way, many):
        crossing = LoggedCrossing(way)
        path = []
        for _ in range(many):
            step = chance.choice(all_steps(way))
            walk = walked(way, path)
            possible = [one for one in all_steps(way) if walk.reason(one) is None]
            if possible and chance.randrange(3) > 0:
                step = chance.choice(possible)
            if chance.randrange(4) == 0:
                if path:
                    path.pop()
                    self.assertIsNone(crossing.undo())
                else:
                    self.failure(NothingToUndo, crossing.undo)
            elif walk.reason(step) is None:
                path.append(step)
                crossing.run(step)
            else:
                self.assertEqual(self.failure(InvalidStep, crossing.run, step).reason, walk.reason(step))
            self.assertEqual(crossing.log, tuple(path))
            self.assertEqual(seen(crossing), walked(way, path).seen())
        self.check_back(crossing, way, path)

    def check_back(self, crossing, way, path):
        """Undoing everything leads back to the beginning."""
        for _ in path:
            self.assertIsNone(crossing.undo())
        self.assertEqual(crossing.log, ())
        self.assertEqual(seen(crossing), SlowWalk(way).seen())
        self.failure(NothingToUndo, crossing.undo)

    def test_drawn_steps_of_small_ways(self):
        chance = random.Random(51)
        for way in small_ways(chance, 60, 10 ** 9):
            self.check_drawn(chance, way, 60)

    def test_drawn_steps_of_greatest_ways(self):
        chance = random.Random(52)
        for way in [Way(6, 6, 12), random_way(chance, 6, 6, 12, 5)]:
            self.check_drawn(chance, way, 150)
