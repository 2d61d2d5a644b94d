"""The class Crossing: points [11] to [13] and [20]."""

import random

from passplaces.crossings import Crossing, LoggedCrossing
from passplaces.errors import InvalidStep, InvalidWalker
from passplaces.plans import Plan
from passplaces.ways import Way
from tests.helpers import Case, many_parts, not_numbers, other_kinds
from tests.slow import random_way, slow_plans, small_ways
from tests.slow_walks import SlowWalk, all_steps, walked

# Each with steps that lead to a state, a step, and its reason there.
REASONS = [
    # The end comes before the file: walker 0 is not ahead of walker 1 either.
    (Way(2, 1, 1), "r0 l0 m00 r0 r1 m10 r1", ("right", 1), "end"),
    (Way(2, 1, 1), "r0 l0 m00 r0 r1 m10", ("right", 0), "end"),
    (Way(1, 2, 1), "l0 r0 m00 l0 l1 m01 l1", ("left", 1), "end"),
    (Way(1, 2, 1), "l0 r0 m00 l0 l1 m01", ("left", 0), "end"),
    (Way(2, 1, 2), "", ("right", 1), "file"),
    (Way(1, 2, 2), "", ("left", 1), "file"),
    (Way(2, 1, 2), "r0", ("right", 1), None),
    (Way(1, 2, 2), "l0", ("left", 1), None),
    # The file comes before a facing walker in the next room.
    (Way(2, 1, 1), "r0 r1", ("right", 1), "file"),
    (Way(2, 1, 1), "r0 r1", ("right", 0), "facing"),
    (Way(1, 2, 1), "l0 l1", ("left", 1), "file"),
    (Way(1, 2, 1), "l0 l1", ("left", 0), "facing"),
    # The file comes before a full place.
    (Way(2, 2, 1), "l0 l1", ("right", 1), "file"),
    (Way(2, 2, 1), "l0 l1", ("right", 0), "full"),
    (Way(2, 2, 1), "r0 r1", ("left", 1), "file"),
    (Way(2, 2, 1), "r0 r1", ("left", 0), "full"),
    (Way(3, 1, 2), "r0 r1", ("right", 2), "full"),
    (Way(1, 3, 2), "l0 l1", ("left", 2), "full"),
    (Way(3, 1, 2), "r0 r1 r0", ("right", 2), None),
    # Two walkers at one place, of one file or of both.
    (Way(1, 1, 2), "r0 l0 l0 l0", ("right", 0), "facing"),
    (Way(1, 1, 2), "r0 l0 l0 l0", ("left", 0), "facing"),
    (Way(1, 1, 2), "r0 l0 l0 l0 m00", ("right", 0), None),
    (Way(1, 1, 2), "r0 l0 l0 l0 m00", ("left", 0), None),
    (Way(2, 1, 2), "r0 l0 l0 l0", ("right", 1), "full"),
    (Way(1, 2, 2), "l0 r0 r0 r0", ("left", 1), "full"),
    # A place with one walker is not full.
    (Way(2, 1, 2), "r0 r0 l0", ("right", 0), None),
    (Way(1, 2, 2), "l0 l0 r0", ("left", 0), None),
    # A room with a walker who comes from the other end.
    (Way(1, 1, 2), "r0 r0 l0", ("left", 0), "facing"),
    (Way(1, 1, 2), "l0 l0 r0", ("right", 0), "facing"),
    # Passing one walker is not enough if another one waits in the room.
    (Way(1, 2, 1), "r0 l0 m00", ("right", 0), "facing"),
    (Way(2, 1, 1), "r0 l0 m00", ("left", 0), "facing"),
    # A room holds any number of walkers of one file.
    (Way(3, 1, 2), "r0 r0 r1 r1 r2", ("right", 2), None),
    (Way(1, 3, 2), "l0 l0 l1 l1 l2", ("left", 2), None),
    (Way(1, 1, 1), "", ("meet", 0, 0), "apart"),
    (Way(1, 1, 1), "r0", ("meet", 0, 0), "apart"),
    (Way(1, 1, 2), "r0 l0", ("meet", 0, 0), "apart"),
    # They have passed already, but being apart comes first.
    (Way(1, 1, 1), "r0 l0 m00 r0", ("meet", 0, 0), "apart"),
    (Way(1, 1, 1), "r0 l0 m00", ("meet", 0, 0), "passed"),
    (Way(1, 1, 2).closing(1), "r0 r0 r0 l0", ("meet", 0, 0), "place"),
    (Way(1, 1, 2).closing(1), "r0 r0 l0", ("meet", 0, 0), "apart"),
    (Way(2, 2, 2).closing(1, right=1, left=0), "r0 r0 r0 l0", ("meet", 0, 0), None),
    # The other place is allowed for this pair, the same place for other pairs.
    (Way(2, 2, 2).closing(0, right=0, left=0), "r0 l0 l0 l0", ("meet", 0, 0), "place"),
]

WORDS = {"r": "right", "l": "left", "m": "meet"}


def steps_of(text):
    """The steps of a short text such as "r0 l0 m00"."""
    return [(WORDS[word[0]], *map(int, word[1:])) for word in text.split()]


def seen(crossing):
    """All properties of a crossing but its way."""
    return (crossing.spots, crossing.cells, crossing.is_over)


def perform(crossing, step):
    """Perform a step by the method of its name."""
    if step[0] == "right":
        return crossing.go_right(step[1])
    if step[0] == "left":
        return crossing.go_left(step[1])
    return crossing.meet(step[1], step[2])


class BeginningTest(Case):
    def test_every_size(self):
        for m in range(1, 7):
            for n in range(1, 7):
                for k in range(1, 13):
                    way = Way(m, n, k)
                    crossing = Crossing(way)
                    expected = (((0,) * m, (2 * k,) * n), ((None,) * n,) * m, False)
                    self.assertEqual(seen(crossing), expected)
                    self.assertIs(crossing.is_over, False)
                    self.assertEqual(crossing.way, Way(m, n, k))

    def test_by_name(self):
        self.assertEqual(seen(Crossing(way=Way(1, 2, 3))), (((0,), (6, 6)), ((None, None),), False))

    def test_kinds(self):
        crossing = Crossing(Way(2, 3, 2))
        crossing.run(*steps_of("r0 l0 l0 l0 m00"))
        for value in [crossing.spots, *crossing.spots, crossing.cells, *crossing.cells]:
            self.assertIs(type(value), tuple)

    def test_properties_cannot_be_set(self):
        crossing = Crossing(Way(2, 2, 2))
        for name in ["way", "spots", "cells", "is_over"]:
            with self.assertRaises(AttributeError):
                setattr(crossing, name, 1)

    def test_ways_without_plan(self):
        crossing = Crossing(Way(2, 2, 1))
        crossing.run(*steps_of("r0 l0 m00"))
        self.assertEqual(crossing.cells, ((0, None), (None, None)))


class ReasonTest(Case):
    def test_listed_reasons(self):
        for way, text, step, reason in REASONS:
            with self.subTest(text=text, step=step):
                self.assertEqual(walked(way, steps_of(text)).reason(step), reason)
                for make in [Crossing, LoggedCrossing]:
                    crossing = make(way)
                    crossing.run(*steps_of(text))
                    self.check_step(crossing, walked(way, steps_of(text)), step)

    def check_step(self, crossing, walk, step):
        """Perform a step in the crossing and in the slow walk; True if it was possible."""
        reason = walk.reason(step)
        if reason is None:
            walk.perform(step)
            self.assertIsNone(perform(crossing, step))
        else:
            self.assertEqual(self.failure(InvalidStep, perform, crossing, step).reason, reason, step)
        self.assertEqual(seen(crossing), walk.seen(), step)
        return reason is None

    def check_all_states(self, way):
        """Try every step in every state that can be reached; the reasons that occurred."""
        reasons = {}
        known = {}
        waiting = [()]
        while waiting:
            path = waiting.pop()
            walk = walked(way, path)
            if walk.seen() in known:
                continue
            known[walk.seen()] = path
            crossing = Crossing(way)
            crossing.run(*path)
            self.assertEqual(seen(crossing), walk.seen())
            for step in all_steps(way):
                reasons[walk.reason(step)] = True
                if walk.reason(step) is None:
                    waiting.append(path + (step,))
                else:
                    self.check_step(crossing, walk, step)
        # The tables of the crossings that are over are the plans.
        self.assertEqual(sorted({cells for _, cells, is_over in known if is_over}), slow_plans(way))
        return set(reasons)

    def test_all_states_of_small_ways(self):
        ways = [
            Way(1, 1, 3), Way(1, 1, 2).closing(0), Way(2, 1, 2), Way(1, 2, 2), Way(2, 2, 1), Way(2, 2, 2),
            Way(3, 1, 2), Way(1, 3, 2), Way(3, 2, 1), Way(2, 2, 2).closing(0, right=0).closing(1, left=0, right=1),
        ]
        reasons = set()
        for way in ways:
            reasons |= self.check_all_states(way)
        self.assertEqual(reasons, {None, "end", "file", "facing", "full", "apart", "passed", "place"})

    def check_drawn(self, chance, way, many):
        crossing, walk = Crossing(way), SlowWalk(way)
        for _ in range(many):
            steps = all_steps(way)
            possible = [step for step in steps if walk.reason(step) is None]
            meets = [step for step in possible if step[0] == "meet"]
            if meets and chance.randrange(4) > 0:
                steps = meets
            elif possible and chance.randrange(2) == 0:
                steps = possible
            self.check_step(crossing, walk, chance.choice(steps))
        return walk

    def test_drawn_steps_of_small_ways(self):
        chance = random.Random(41)
        for way in small_ways(chance, 150, 10 ** 9):
            self.check_drawn(chance, way, 120)

    def test_drawn_steps_of_narrow_ways(self):
        chance = random.Random(42)
        over = 0
        for number in range(60):
            way = Way(1 + number % 2, 1 + number // 2 % 2, 2 + number % 3)
            over += self.check_drawn(chance, way, 200).is_over
        self.assertGreater(over, 5)

    def test_drawn_steps_of_greatest_ways(self):
        chance = random.Random(43)
        for number in range(12):
            way = Way(6, 6, 12) if number < 4 else random_way(chance, 6, 6, 12, 2 + number % 7)
            self.check_drawn(chance, way, 500)


class OverTest(Case):
    def test_the_last_walker_counts(self):
        for way, text, last in [
            (Way(2, 1, 1), "r0 l0 m00 r0 r1 m10 l0", "r1"),
            (Way(1, 2, 1), "l0 r0 m00 l0 l1 m01 r0", "l1"),
            (Way(1, 1, 1), "r0 l0 m00 r0", "l0"),
            (Way(1, 1, 1), "r0 l0 m00 l0", "r0"),
        ]:
            crossing = Crossing(way)
            for step in steps_of(text):
                perform(crossing, step)
                self.assertIs(crossing.is_over, False)
            crossing.run(*steps_of(last))
            self.assertIs(crossing.is_over, True)
            for step in all_steps(way):
                reason = "apart" if step[0] == "meet" else "end"
                self.assertEqual(self.failure(InvalidStep, crossing.run, step).reason, reason)


class PlanTest(Case):
    def test_open_until_all_have_passed(self):
        way = Way(2, 2, 2)
        crossing = Crossing(way)
        steps = steps_of("r0 l0 l0 l0 m00 r0 r0 l1 m01 r1 m10 r0 l0 l1 l1 m11")
        for step in steps[:-1]:
            self.assertEqual(self.failure(InvalidStep, crossing.plan).reason, "open")
            perform(crossing, step)
        self.assertEqual(self.failure(InvalidStep, crossing.plan).reason, "open")
        perform(crossing, steps[-1])
        self.assertIs(crossing.is_over, False)
        self.assertEqual(crossing.plan(), Plan(way, ((0, 1), (0, 0))))
        self.assertIs(type(crossing.plan()), Plan)

    def test_place_zero_counts_as_passed(self):
        crossing = Crossing(Way(1, 1, 1))
        crossing.run(*steps_of("r0 l0 m00"))
        self.assertEqual(crossing.plan().cells, ((0,),))
        self.assertEqual(crossing.plan().way, Way(1, 1, 1))

    def test_any_open_pair(self):
        for way, text in [(Way(1, 3, 1), "r0 l0 m00 l0 l1 m01"), (Way(3, 1, 1), "l0 r0 m00 r0 r1 m10")]:
            crossing = Crossing(way)
            crossing.run(*steps_of(text))
            self.assertEqual(self.failure(InvalidStep, crossing.plan).reason, "open")

    def test_drawn_walks_end_with_plans(self):
        chance = random.Random(44)
        passed = 0
        for way in small_ways(chance, 250, 10 ** 9):
            crossing, walk = Crossing(way), SlowWalk(way)
            while True:
                possible = [step for step in all_steps(way) if walk.reason(step) is None]
                if not possible:
                    break
                meets = [step for step in possible if step[0] == "meet"]
                step = chance.choice(meets or possible)
                walk.perform(step)
                crossing.run(step)
            if len(walk.passed) == len(way):
                # All walkers can go on to their last rooms.
                passed += 1
                self.assertIs(crossing.is_over, True)
                self.assertEqual(crossing.plan(), Plan(way, walk.cells))
            else:
                self.assertIs(crossing.is_over, False)
                self.assertEqual(self.failure(InvalidStep, crossing.plan).reason, "open")
        self.assertGreater(passed, 20)


class WalkerTest(Case):
    def both(self):
        return [Crossing(Way(2, 3, 2)), LoggedCrossing(Way(2, 3, 2))]

    def test_any_value(self):
        for crossing in self.both():
            before = seen(crossing)
            for value in not_numbers(0, 1):
                self.assertTrue(self.failure(InvalidWalker, crossing.go_right, value).value is value)
                self.assertTrue(self.failure(InvalidWalker, crossing.meet, value, 0).value is value)
                self.assertTrue(self.failure(InvalidWalker, crossing.run, ("right", value)).value is value)
                self.assertTrue(self.failure(InvalidWalker, crossing.run, ("meet", value, 0)).value is value)
            for value in not_numbers(0, 2):
                self.assertTrue(self.failure(InvalidWalker, crossing.go_left, value).value is value)
                self.assertTrue(self.failure(InvalidWalker, crossing.meet, 0, value).value is value)
                self.assertTrue(self.failure(InvalidWalker, crossing.run, ("left", value)).value is value)
                self.assertTrue(self.failure(InvalidWalker, crossing.run, ("meet", 0, value)).value is value)
            self.assertEqual(seen(crossing), before)

    def test_the_first_wrong_walker(self):
        for crossing in self.both():
            for one in not_numbers(0, 1):
                for two in [3, None, [0], many_parts()]:
                    self.assertTrue(self.failure(InvalidWalker, crossing.meet, one, two).value is one)
                    self.assertTrue(self.failure(InvalidWalker, crossing.run, ("meet", one, two)).value is one)

    def test_files_are_not_exchanged(self):
        for crossing in self.both():
            self.assertEqual(self.failure(InvalidWalker, crossing.go_right, 2).value, 2)
            self.assertEqual(self.failure(InvalidStep, crossing.go_left, 2).reason, "file")
            self.assertEqual(self.failure(InvalidWalker, crossing.meet, 2, 1).value, 2)
            self.assertEqual(self.failure(InvalidStep, crossing.meet, 1, 2).reason, "apart")

    def test_by_name(self):
        for crossing in self.both():
            self.assertIsNone(crossing.go_right(number=0))
            self.assertIsNone(crossing.go_left(number=0))
            self.assertIsNone(crossing.go_left(number=0))
            self.assertIsNone(crossing.go_left(number=0))
            self.assertEqual(crossing.spots, ((1, 0), (1, 4, 4)))
            self.assertEqual(self.failure(InvalidStep, crossing.meet, left=1, right=0).reason, "apart")
            self.assertIsNone(crossing.meet(left=0, right=0))
            self.assertEqual(crossing.cells, ((0, None, None), (None, None, None)))


def wrong_forms():
    """Values that have not the form of a step."""
    deep = many_parts()
    words = ["right", "left", "meet"]
    found = other_kinds() + [0, 1, 10 ** 998, "right", "right0", "meet", ("right 0",), ("stay", 0)]
    found += [(word,) for word in words] + [[word, 0] for word in words] + [(word, 0, 0, 0) for word in words]
    found += [("right", 0, 0), ("left", 0, 0), ("meet", 0), ("right", 0, None), ("left", 0, deep), ("meet", deep)]
    found += [("Right", 0), ("", 0), ("r", 0), ("meets", 0, 0), (b"right", 0), (("right",), 0), (["right"], 0)]
    found += [(0, "right"), (None, 0), (True, 0), (0, 0, 0), (deep, 0), (deep, deep, deep), (deep,) * 10000]
    found += [("right",) * 2 + (0,), {"right": 0}, ["meet", 0, 0], (("right", 0),), (("right", 0), ("left", 0))]
    found += [(value, 0) for value in other_kinds()] + [(value, 0, 0) for value in other_kinds()]
    return found


class RunTest(Case):
    def test_without_steps(self):
        for make in [Crossing, LoggedCrossing]:
            crossing = make(Way(2, 2, 2))
            before = seen(crossing)
            self.assertIsNone(crossing.run())
            self.assertEqual(seen(crossing), before)

    def test_returns_none(self):
        self.assertIsNone(Crossing(Way(1, 1, 1)).run(("right", 0), ("left", 0), ("meet", 0, 0)))

    def test_every_wrong_form(self):
        for make in [Crossing, LoggedCrossing]:
            crossing = make(Way(2, 2, 2))
            before = seen(crossing)
            for value in wrong_forms():
                self.assertEqual(self.failure(InvalidStep, crossing.run, value).reason, "form")
            self.assertEqual(seen(crossing), before)

    def test_steps_before_the_first_wrong_one(self):
        chance = random.Random(45)
        good = steps_of("r0 l0 l0 l0 m00 r0 r1")
        way = Way(2, 2, 2)
        wrong_steps = [
            (("right", 2), InvalidWalker, 2), (("left", None), InvalidWalker, None),
            (("meet", 0, -1), InvalidWalker, -1), (("meet", True, 0), InvalidWalker, True),
            (("meet", 1, 1), InvalidStep, "apart"), (("left", 1, 0), InvalidStep, "form"),
        ]
        wrong_steps += [(value, InvalidStep, "form") for value in wrong_forms()]
        for step, kind, field in wrong_steps:
            at = chance.randrange(len(good) + 1)
            later = chance.choice([(), ("right", 9), ("right",), ("right", 1)])
            for make in [Crossing, LoggedCrossing]:
                crossing = make(way)
                error = self.failure(kind, crossing.run, *good[:at], step, later, *good[at:])
                found = error.reason if kind is InvalidStep else error.value
                self.assertTrue(found is field or found == field)
                self.assertEqual(seen(crossing), walked(way, good[:at]).seen())

    def test_a_form_is_checked_only_when_its_turn_comes(self):
        crossing = Crossing(Way(1, 1, 1))
        self.assertEqual(self.failure(InvalidStep, crossing.run, ("meet", 0, 0), None).reason, "apart")
        self.assertEqual(self.failure(InvalidWalker, crossing.run, ("left", 1), None).value, 1)
        self.assertEqual(self.failure(InvalidStep, crossing.run, None, ("left", 1)).reason, "form")
        self.assertEqual(seen(crossing), SlowWalk(Way(1, 1, 1)).seen())

    def test_the_walker_comes_before_the_reason(self):
        crossing = Crossing(Way(2, 2, 2))
        self.assertEqual(self.failure(InvalidWalker, crossing.run, ("meet", 0, 2)).value, 2)

    def test_drawn_runs(self):
        chance = random.Random(46)
        for way in small_ways(chance, 60, 10 ** 9):
            crossing, walk = Crossing(way), SlowWalk(way)
            for _ in range(30):
                steps = [chance.choice(all_steps(way)) for _ in range(chance.randrange(5))]
                reason = None
                for step in steps:
                    reason = walk.reason(step)
                    if reason is not None:
                        break
                    walk.perform(step)
                if reason is None:
                    self.assertIsNone(crossing.run(*steps))
                else:
                    self.assertEqual(self.failure(InvalidStep, crossing.run, *steps).reason, reason)
                self.assertEqual(seen(crossing), walk.seen())


class UnchangedTest(Case):
    def test_tuples_stay_as_they_are(self):
        way = Way(2, 2, 2)
        steps = tuple(steps_of("r0 l0 l0 l0 m00 r0 r0 l1 m01 r1"))
        crossing = LoggedCrossing(way)
        kept = []
        for step in steps:
            kept.append((crossing.spots, crossing.cells, crossing.log))
            crossing.run(step)
        for _ in steps:
            crossing.undo()
        # They are read only now.
        for index, (spots, cells, log) in enumerate(kept):
            walk = walked(way, steps[:index])
            self.assertEqual((spots, cells, log), (walk.spots, walk.cells, steps[:index]))

    def test_the_way_stays_as_it_is(self):
        way = Way(2, 2, 2).closing(1, right=1)
        table = way.table
        crossing = Crossing(way)
        crossing.run(*steps_of("r0 l0 l0 l0 m00"))
        self.assertEqual((way.table, crossing.way.table), (table, table))

    def test_two_crossings_of_one_way(self):
        way = Way(2, 2, 2)
        one, two = Crossing(way), Crossing(way)
        one.run(*steps_of("r0 l0 l0 l0 m00"))
        self.assertEqual(seen(two), SlowWalk(way).seen())
        self.assertEqual(seen(Crossing(way)), SlowWalk(way).seen())


class DocumentTest(Case):
    def test_example(self):
        crossing = LoggedCrossing(Way(1, 1, 1))
        crossing.run(("right", 0), ("left", 0), ("meet", 0, 0), ("right", 0))
        self.assertEqual(crossing.spots, ((2,), (1,)))
        self.assertEqual(crossing.cells, ((0,),))
        self.assertIs(crossing.is_over, False)
        self.assertEqual(crossing.log[-1], ("right", 0))
