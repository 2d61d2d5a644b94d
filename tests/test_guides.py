"""The class Guide, point [50]: the plan that follows the changes."""

import random

from passplaces.errors import InvalidPlaces, InvalidWalker, LimitExceeded, NothingToUndo
from passplaces.live import Guide, LiveWay
from passplaces.plans import Plan
from passplaces.ways import Way
from tests.helpers import Case, many_parts
from tests.slow import pairs_of, random_way, slow_least, slow_plans, small_ways
from tests.slow_live import SlowGuide, performed, random_change


class GuideCase(Case):
    def check_same(self, guide, slow):
        self.assertEqual(guide.way, slow.way)
        self.assertEqual(guide.log, tuple(slow.log))
        self.assertIs(type(guide.moves), int)
        self.assertEqual(guide.moves, slow.moves)
        if slow.course is None:
            self.assertIsNone(guide.course)
            self.assertIs(guide.is_passable, False)
        else:
            # Equal plans have equal ways: the plan is one of the current way.
            self.assertEqual(guide.course, Plan(slow.way, slow.course))
            self.assertIs(guide.is_passable, True)

    def perform(self, guide, slow, change):
        """Perform a change, or undo for None, on both; return True if it is possible."""
        if change is None:
            if not slow.log:
                self.failure(NothingToUndo, guide.undo)
                return False
            slow.undo()
            guide.undo()
            return True
        expected = slow.change(change)
        if expected is not None:
            kind = LimitExceeded if expected[0] == "limit" else InvalidPlaces
            self.failure(kind, performed, guide, change)
            return False
        self.assertIsNone(performed(guide, change))
        return True

    def check_run(self, chance, way, many, share):
        """A long run of changes and undos; return how often the way lost its plans and got some again."""
        guide, slow = Guide(way), SlowGuide(way)
        self.check_same(guide, slow)
        turns = 0
        for _ in range(many):
            before = guide.is_passable
            change = None
            if chance.randrange(4) > 0:
                change = random_change(chance, slow.size, share)
            self.perform(guide, slow, change)
            self.check_same(guide, slow)
            turns += before != guide.is_passable
        while slow.log:
            self.perform(guide, slow, None)
            self.check_same(guide, slow)
        self.assertEqual(guide.way, way)
        return turns


class RunTest(GuideCase):
    def test_is_a_live_way(self):
        self.assertEqual(Guide.__bases__, (LiveWay,))

    def test_beginning(self):
        chance = random.Random(61)
        for way in [Way(1, 1, 1), Way(6, 6, 12), Way(2, 2, 1)] + small_ways(chance, 60, 2000):
            guide = Guide(way=way)
            self.check_same(guide, SlowGuide(way))
            self.assertEqual(guide.moves, 0)
            if guide.is_passable:
                self.assertEqual(guide.course, Plan.leftmost(way))

    def test_long_runs_of_small_ways(self):
        chance = random.Random(62)
        turns = 0
        for way in small_ways(chance, 25, 300):
            turns += self.check_run(chance, way, 80, 6)
        self.assertGreater(turns, 100)

    def test_long_runs_without_plans_at_first(self):
        chance = random.Random(63)
        ways = [way for way in small_ways(chance, 200, 300) if slow_least(way) is None]
        self.assertGreater(len(ways), 15)
        turns = sum(self.check_run(chance, way, 60, 8) for way in ways[:15])
        self.assertGreater(turns, 50)

    def test_a_full_run(self):
        chance = random.Random(64)
        way = Way(2, 2, 3)
        guide, slow = Guide(way), SlowGuide(way)
        while len(slow.log) < 200:
            self.perform(guide, slow, random_change(chance, slow.size, 7))
            self.check_same(guide, slow)
        self.failure(LimitExceeded, guide.close)
        self.check_same(guide, slow)
        while slow.log:
            self.perform(guide, slow, None)
            self.check_same(guide, slow)

    def test_runs_of_great_ways(self):
        chance = random.Random(65)
        for way in [Way(6, 6, 12), Way(6, 6, 6), random_way(chance, 6, 6, 12, 8), Way(3, 4, 5), Way(1, 6, 12)]:
            self.check_run(chance, way, 40, 3)


class FollowTest(GuideCase):
    def test_places_do_not_go_back(self):
        way = Way(1, 1, 5)
        guide = Guide(way)
        self.assertEqual(guide.course.cells, ((0,),))
        guide.allow(0, 0, 2, 4)
        self.assertEqual((guide.course.cells, guide.moves), (((2,),), 1))
        guide.allow(0, 0, 0, 1, 2, 3, 4)
        self.assertEqual((guide.course.cells, guide.moves), (((2,),), 1))
        guide.allow(0, 0, 0, 1)
        # No place is left at 2 or behind it, so it takes the rightmost plan.
        self.assertEqual((guide.course.cells, guide.moves), (((1,),), 2))
        guide.undo()
        self.assertEqual((guide.course.cells, guide.moves), (((1,),), 2))
        guide.undo()
        self.assertEqual((guide.course.cells, guide.moves), (((2,),), 3))
        guide.undo()
        self.assertEqual((guide.course.cells, guide.moves), (((2,),), 3))

    def test_the_plan_before_the_way_lost_its_plans(self):
        guide = Guide(Way(2, 2, 3).closing(0))
        before = guide.course.cells
        self.assertEqual(before, ((1, 2), (1, 1)))
        guide.allow(1, 0, 2)
        guide.allow(0, 1, 1)
        self.assertIsNone(guide.course)
        moves = guide.moves
        guide.allow(0, 1, 0, 1, 2)
        self.assertIsNone(guide.course)
        guide.allow(1, 0, 0, 1, 2)
        self.assertEqual((guide.course.cells, guide.moves), (before, moves))

    def test_several_pairs_move_at_once(self):
        guide = Guide(Way(2, 2, 3))
        guide.close(0)
        self.assertEqual((guide.course.cells, guide.moves), (((1, 2), (1, 1)), 4))
        guide.undo()
        self.assertEqual((guide.course.cells, guide.moves), (((1, 2), (1, 1)), 4))

    def test_the_first_plan_adds_nothing(self):
        guide = Guide(Way(2, 2, 1))
        self.assertEqual((guide.course, guide.moves), (None, 0))
        way = Way(2, 2, 3).allowing(0, 1, 0)
        guide = Guide(way)
        self.assertEqual((guide.course, guide.moves), (None, 0))
        guide.close(2)
        self.assertEqual((guide.course, guide.moves), (None, 0))
        guide.allow(0, 1, 1, 2)
        self.assertEqual((guide.course, guide.moves), (Plan.leftmost(guide.way), 0))
        self.assertEqual(guide.course.cells, ((0, 1), (0, 0)))
        guide.undo()
        guide.undo()
        self.assertEqual((guide.course, guide.moves), (None, 0))
        guide.close(0, right=1)
        guide.allow(0, 1, 2)
        self.assertEqual((guide.course.cells, guide.moves), (((1, 2), (1, 1)), 4))

    def test_the_plan_belongs_to_the_current_way(self):
        guide = Guide(Way(2, 2, 3))
        first = guide.course
        guide.close(2, right=0, left=0)
        self.assertEqual(guide.course.cells, first.cells)
        self.assertEqual(guide.course.way, guide.way)
        self.assertEqual(first.way, Way(2, 2, 3))
        self.assertFalse(guide.course == first)
        self.assertEqual(guide.moves, 0)

    def test_ties_are_the_leftmost_of_the_plans_that_are_not_less(self):
        # Each pair may stay or must go on; the plan is not only raised where it must be.
        chance = random.Random(66)
        for way in small_ways(chance, 80, 400):
            guide = Guide(way)
            if guide.course is None:
                continue
            before = guide.course.cells
            change = random_change(chance, (way.rights, way.lefts, way.places), 3)
            slow = SlowGuide(way)
            if slow.change(change) is None:
                performed(guide, change)
                higher = [
                    cells for cells in slow_plans(guide.way)
                    if all(cells[i][j] >= before[i][j] for i, j in pairs_of(way))
                ]
                if higher:
                    self.assertEqual(guide.course.cells, min(higher))

    def test_no_change_without_changes(self):
        for way in [Way(2, 2, 3), Way(2, 2, 1)]:
            guide = Guide(way)
            guide.close()
            before = (guide.course, guide.moves, guide.log)
            calls = [
                lambda: guide.without(0), lambda: guide.without(0, right=0, left=1), lambda: guide.copy(),
                lambda: list(guide.ways()), lambda: guide.is_passable, lambda: guide == Guide(way),
            ]
            for call in calls:
                try:
                    call()
                except InvalidPlaces:
                    pass
                self.assertEqual((guide.course, guide.moves, guide.log), before)
            self.failure(InvalidPlaces, guide.close, 3)
            self.failure(InvalidWalker, guide.allow, many_parts(), 0, 0)
            self.failure(InvalidPlaces, guide.without, *range(way.places))
            self.assertEqual((guide.course, guide.moves, guide.log), before)

    def test_closing_nothing_moves_nothing(self):
        guide = Guide(Way(2, 2, 3))
        guide.close(0)
        moves, cells = guide.moves, guide.course.cells
        guide.close()
        guide.undo()
        self.assertEqual((guide.moves, guide.course.cells), (moves, cells))

    def test_without_is_the_leftmost_plan(self):
        guide = Guide(Way(1, 1, 4))
        guide.close(0, 1)
        guide.undo()
        self.assertEqual(guide.course.cells, ((2,),))
        self.assertEqual(guide.without(0).cells, ((1,),))
        self.assertEqual((guide.course.cells, guide.moves), (((2,),), 1))

    def test_properties_cannot_be_set(self):
        guide = Guide(Way(1, 1, 1))
        for name in ["course", "moves", "way", "log", "is_passable"]:
            with self.assertRaises(AttributeError):
                setattr(guide, name, None)

    def test_a_course_that_was_read_stays(self):
        guide = Guide(Way(2, 2, 3))
        first = guide.course
        cells = first.cells
        guide.close(0)
        guide.undo()
        self.assertEqual((first.cells, first.way), (cells, Way(2, 2, 3)))


class EqualTest(GuideCase):
    def test_equal_guides(self):
        one, two = Guide(Way(2, 2, 3)), Guide(Way(2, 2, 3))
        self.assertTrue(one == two)
        self.assertFalse(one != two)
        one.close(0)
        self.assertFalse(one == two)
        two.close(0)
        self.assertTrue(one == two)

    def test_other_plans(self):
        # Both are at the same way with the same log, but one has been moved on.
        one, two = Guide(Way(1, 1, 3)), Guide(Way(1, 1, 3))
        one.close(0)
        one.undo()
        self.assertEqual((one.way, one.log), (two.way, two.log))
        self.assertFalse(one == two)
        self.assertTrue(one != two)

    def test_other_moves_with_equal_plans(self):
        one, two = Guide(Way(1, 1, 3)), Guide(Way(1, 1, 3))
        one.close(0)
        one.undo()
        one.close(1, 2)
        one.undo()
        self.assertEqual((one.way, one.log, one.course), (two.way, two.log, two.course))
        self.assertEqual((one.moves, two.moves), (2, 0))
        self.assertFalse(one == two)
        self.assertFalse(two == one)

    def lost(self, *places):
        """A guide on a way that has lost its plans, with a plan from before the loss."""
        guide = Guide(Way(2, 2, 3))
        guide.close(*places)
        guide.undo()
        guide.allow(1, 0, 2)
        return guide

    def test_plans_before_the_loss(self):
        one, two = Guide(Way(2, 2, 2)), Guide(Way(2, 2, 2))
        for guide in [one, two]:
            guide.allow(1, 0, 1)
        self.assertIsNone(one.course)
        self.assertTrue(one == two)
        # The same moves lead to another plan before the loss.
        one, two = Guide(Way(1, 2, 3).closing(0)), Guide(Way(1, 2, 3).closing(0))
        for guide, left in [(one, 0), (two, 1)]:
            guide.close(1, right=0, left=left)
            guide.undo()
        self.assertEqual((one.course.cells, two.course.cells), (((2, 2),), ((1, 2),)))
        self.assertEqual((one.moves, two.moves), (2, 1))
        self.assertFalse(one == two)

    def test_other_plans_before_the_loss_with_equal_moves(self):
        one, two = Guide(Way(2, 2, 4)), Guide(Way(2, 2, 4))
        self.assertEqual(one.course.cells, ((0, 1), (0, 0)))
        for guide, (right, left) in [(one, (0, 1)), (two, (0, 1))]:
            guide.allow(right, left, 2)
            guide.undo()
        self.assertTrue(one == two)
        one.allow(0, 1, 3)
        one.undo()
        two.allow(0, 0, 1)
        two.undo()
        self.assertEqual((one.moves, two.moves), (2, 2))
        self.assertEqual((one.course.cells, two.course.cells), (((0, 3), (0, 0)), ((1, 2), (0, 0))))
        self.assertFalse(one == two)
        for guide in [one, two]:
            guide.allow(1, 0, 3)
            guide.allow(0, 1, 0)
            self.assertIsNone(guide.course)
        self.assertEqual((one.way, one.log, one.moves), (two.way, two.log, two.moves))
        # They have no plan at present, so the plans before that count.
        self.assertFalse(one == two)
        self.assertTrue(one != two)
        for guide in [one, two]:
            guide.undo()
            guide.undo()
        self.assertEqual((one.course.cells, two.course.cells), (((0, 3), (0, 0)), ((1, 2), (0, 0))))
        self.assertEqual((one.moves, two.moves), (2, 2))

    def test_guides_that_never_had_a_plan(self):
        one, two = Guide(Way(2, 2, 1)), Guide(Way(2, 2, 1))
        self.assertTrue(one == two)
        one.close()
        two.close()
        self.assertTrue(one == two)

    def test_a_guide_that_had_a_plan_and_one_that_had_none(self):
        change = ("allow", 1, 0, (1,))
        had, had_none = Guide(Way(2, 2, 2)), Guide(Way(2, 2, 2).allowing(1, 0, 1))
        performed(had, change)
        performed(had_none, change)
        self.assertEqual((had.way, had.log, had.moves), (had_none.way, had_none.log, had_none.moves))
        self.assertIsNone(had.course)
        self.assertIsNone(had_none.course)
        self.assertFalse(had == had_none)
        self.assertFalse(had_none == had)

    def test_equal_tables_of_other_ways_before_the_loss(self):
        one, two = Guide(Way(2, 2, 2)), Guide(Way(2, 2, 2))
        for guide in [one, two]:
            guide.allow(1, 0, 1)
            self.assertIsNone(guide.course)
        two.allow(1, 0, 0)
        self.assertEqual(two.course.cells, Plan.leftmost(Way(2, 2, 2)).cells)
        two.undo()
        self.assertEqual((one.way, one.log, one.moves), (two.way, two.log, two.moves))
        self.assertEqual((one.course, two.course), (None, None))
        # The last plans have the same table, but they are plans of other ways, so they are not equal.
        self.assertFalse(one == two)
        one.undo()
        two.undo()
        self.assertTrue(one == two)

    def test_drawn_guides(self):
        chance = random.Random(67)
        equal = 0
        for _ in range(400):
            way = Way(chance.randint(1, 2), 2, 2)
            guides, slows = [], []
            for _ in range(2):
                guide, slow = Guide(way), SlowGuide(way)
                for _ in range(chance.randint(0, 4)):
                    self.perform(guide, slow, chance.choice([None, random_change(chance, slow.size, 5)]))
                guides.append(guide)
                slows.append(slow)
            expected = self.key(slows[0]) == self.key(slows[1])
            equal += expected
            self.assertEqual(guides[0] == guides[1], expected)
        self.assertGreater(equal, 20)
        self.assertLess(equal, 380)

    def key(self, slow):
        return (slow.tables[-1], slow.log, slow.moves, slow.last, slow.last_table)


class CopyTest(GuideCase):
    def test_a_copy_keeps_the_plan_before_the_loss(self):
        guide = Guide(Way(1, 1, 4).closing(0, 3))
        guide.allow(0, 0, 2)
        guide.undo()
        twin = guide.copy()
        self.assertEqual((twin.course.cells, twin.moves), (((2,),), 1))
        guide = Guide(Way(2, 2, 3))
        guide.close(0)
        guide.allow(1, 0, 2)
        guide.allow(0, 1, 1)
        self.assertIsNone(guide.course)
        twin = guide.copy()
        self.assertIsNone(twin.course)
        for one in [guide, twin]:
            one.undo()
            one.undo()
        self.assertEqual(twin, guide)
        self.assertEqual(twin.course, guide.course)

    def test_drawn_copies(self):
        chance = random.Random(68)
        for way in small_ways(chance, 40, 300):
            guide, slow = Guide(way), SlowGuide(way)
            for _ in range(12):
                guide = guide.copy()
                self.assertIs(type(guide), Guide)
                self.perform(guide, slow, chance.choice([None, random_change(chance, slow.size, 7)]))
                self.check_same(guide, slow)


class DocumentTest(GuideCase):
    def test_example(self):
        guide = Guide(Way(2, 2, 3))
        first = guide.course.cells
        guide.close(0)
        self.assertEqual(
            (first, guide.course.cells, guide.way.allowed(0, 0), len(guide)),
            (((0, 1), (0, 0)), ((1, 2), (1, 1)), (1, 2), 1),
        )
