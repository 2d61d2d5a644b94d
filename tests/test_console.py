"""Module passplaces.console: every command, and the order of its failures."""

import random

from passplaces.console import Console
from passplaces.listing import count_plans, plans
from passplaces.live import LiveWay
from passplaces.orders import count_orders
from passplaces.plans import Plan, has_plan
from passplaces.ways import Way
from tests.helpers import Case, many_parts, other_kinds
from tests.slow_texts import SlowConsole

QUESTIONS = ["decide", "left", "right", "count", "orders"]
NO_NUMBERS = QUESTIONS + ["undo"]


def console_with(*commands):
    """A console after commands that all succeed."""
    console = Console()
    for command in commands:
        assert console.run(command) == "ok", command
    return console


def seen(console):
    """The answers of a console to all questions that change nothing."""
    return [console.run(question) for question in QUESTIONS]


class ConsoleCase(Case):
    def check(self, console, expected):
        """The answers to some commands, one after the other."""
        for command, answer in expected:
            found = console.run(command)
            self.assertEqual(found, answer, command)
            self.assertIs(type(found), str)

    def check_like_slow(self, console, slow, command):
        found = console.run(command)
        self.assertIs(type(found), str)
        self.assertEqual(found, slow.run(command), command)
        return found


class FormTest(ConsoleCase):
    def consoles(self):
        return [Console(), console_with("new 2 2 2"), console_with("new 2 2 1")]

    def test_any_value(self):
        for console in self.consoles():
            before = seen(console)
            values = [value for value in other_kinds() if not isinstance(value, str)]
            more = [0, 1, 10 ** 998, b"decide", ["decide"], ("new", 1, 1, 1), ("decide",), {"decide"}, many_parts()]
            for value in values + more:
                self.check(console, [(value, "bad command")])
            self.assertEqual(seen(console), before)

    def test_words(self):
        wrong = [
            "", " ", "  ", "\n", "x", "New 1 1 1", "NEW 1 1 1", "decid", "decide2", "leftright", "plan", "chain",
            "ok", "plans", "ways", "copy", "run", "0", "1 2 3", "close,0", "news 1 1 1", "way 1 1 1", "None",
        ]
        for console in self.consoles():
            self.check(console, [(command, "bad command") for command in wrong])

    def test_separation(self):
        right = ["new 2 2 2", "close 0 1", "allow 0 0 0 1", "undo", "decide", "left", "right", "count", "orders"]
        for command in right + ["without 0 1"]:
            forms = [" " + command, command + " ", command + "\n", "\n" + command, command + "  ", "  " + command]
            forms += [command + "\t", command + "\r", command.replace(" ", "\n"), command.replace(" ", "\t")]
            if " " in command:
                forms += [command.replace(" ", "  "), command.replace(" ", "  ", 1), command.replace(" ", "")]
            for console in self.consoles():
                for form in forms:
                    if form != command:
                        self.check(console, [(form, "bad command")])

    def test_numbers_of_integers(self):
        wrong = ["new", "new 1", "new 1 1", "new 1 1 1 1", "close", "without", "allow", "allow 0", "allow 0 0"]
        wrong += [word + " 0" for word in NO_NUMBERS] + [word + " 0 0 0" for word in NO_NUMBERS]
        for console in self.consoles():
            before = seen(console)
            self.check(console, [(command, "bad command") for command in wrong])
            self.assertEqual(seen(console), before)

    def test_integers(self):
        wrong = ["-1", "-0", "+1", "00", "01", "007", "0001", "10000", "99999", "1.0", "1e0", "x", "", "1_0", "0x1"]
        wrong += ["1" * 4300, "9" * 19000, "0" * 19000, "True", "None", "\u0661", "\u00b2", "1\t", "1\n", "1,"]
        for console in self.consoles():
            before = seen(console)
            for word in wrong:
                for command in ["new {} 2 2", "new 2 {} 2", "new 2 2 {}", "close {}", "close 0 {}", "close {} 0",
                                "allow {} 0 0", "allow 0 {} 0", "allow 0 0 {}", "allow 0 0 0 {}", "without {}",
                                "without 1 {}", "decide {}", "undo {}"]:
                    self.check(console, [(command.format(word), "bad command")])
            self.assertEqual(seen(console), before)

    def test_integers_of_four_digits_have_the_right_form(self):
        self.check(Console(), [("new 9999 1 1", "bad way"), ("close 9999", "no way"), ("allow 9999 0 0", "no way")])
        self.check(console_with("new 2 2 2"), [
            ("close 9999", "bad places"), ("allow 1000 9999 9999", "bad walker"), ("without 0 9999", "bad places"),
        ])


class CommandTest(ConsoleCase):
    def test_new(self):
        for m, n, k in [(1, 1, 1), (6, 6, 12), (2, 3, 4), (1, 6, 12)]:
            console = Console()
            self.check(console, [("new {} {} {}".format(m, n, k), "ok")])
            least = Plan.leftmost(Way(m, n, k))
            self.check(console, [("left", " ".join(str(x) for row in least.cells for x in row))])
        for size in ["0 1 1", "1 0 1", "1 1 0", "7 1 1", "1 7 1", "1 1 13", "0 0 0", "9999 9999 9999"]:
            self.check(Console(), [("new " + size, "bad way"), ("decide", "no way")])

    def test_a_failed_new_changes_nothing(self):
        console = console_with("new 2 2 3", "close 0")
        before = seen(console)
        self.check(console, [("new 7 1 1", "bad way"), ("new 1 1", "bad command")])
        self.assertEqual(seen(console), before)
        self.check(console, [("undo", "ok"), ("undo", "nothing to undo")])

    def test_a_second_new(self):
        console = console_with("new 2 2 3", "close 0")
        self.check(console, [("new 2 2 1", "ok"), ("undo", "nothing to undo"), ("decide", "chain")])

    def test_close(self):
        console = console_with("new 2 2 3")
        self.check(console, [
            ("close 0", "ok"), ("left", "1 2 1 1"), ("close 0 0", "ok"), ("close 1 2", "bad places"),
            ("close 3", "bad places"), ("left", "1 2 1 1"), ("close 1", "ok"), ("decide", "chain"),
        ])

    def test_allow(self):
        console = console_with("new 2 2 3")
        self.check(console, [
            ("allow 0 1 2", "ok"), ("left", "0 2 0 0"), ("allow 0 1 1 2 1", "ok"), ("left", "0 1 0 0"),
            ("allow 2 0 0", "bad walker"), ("allow 0 2 0", "bad walker"), ("allow 0 0 3", "bad places"),
            ("allow 0 1 0", "ok"), ("decide", "chain"), ("undo", "ok"), ("decide", "plan"),
        ])

    def test_undo(self):
        console = console_with("new 2 2 3")
        first = seen(console)
        self.check(console, [("undo", "nothing to undo"), ("close 0", "ok"), ("allow 0 0 0", "ok")])
        self.check(console, [("undo", "ok"), ("left", "1 2 1 1"), ("undo", "ok"), ("undo", "nothing to undo")])
        self.assertEqual(seen(console), first)

    def test_left_and_right(self):
        console = console_with("new 2 3 12")
        self.check(console, [("left", "0 1 1 0 0 0"), ("right", "11 11 11 10 10 11")])
        self.check(console, [("allow 0 2 3 5", "ok"), ("right", "5 5 5 4 4 5")])

    def test_count(self):
        self.check(console_with("new 2 2 2"), [("count", "4")])
        self.check(console_with("new 2 2 1"), [("count", "0")])
        self.check(console_with("new 1 1 12"), [("count", "12")])
        self.check(console_with("new 6 6 12"), [("count", "too many plans")])

    def test_count_around_500_plans(self):
        # One right walker and four left walkers: the binomial coefficient of k + 3 and 4.
        self.check(console_with("new 1 4 8"), [("count", "330")])
        self.check(console_with("new 1 4 9"), [("count", "495")])
        self.check(console_with("new 1 4 10"), [("count", "too many plans")])
        way = Way(1, 2, 12)
        console = console_with("new 1 2 12", "close 3")
        self.check(console, [("count", str(count_plans(way.closing(3))))])

    def test_exactly_500_plans(self):
        # The bits of the numbers are the allowed places.
        for masks, answer in [([[1772, 1326], [1023, 2943]], "500"), ([[1787, 4076], [3956, 3007]], "too many plans")]:
            console = console_with("new 2 2 12")
            for i in range(2):
                for j in range(2):
                    places = [str(place) for place in range(12) if masks[i][j] >> place & 1]
                    self.check(console, [("allow {} {} {}".format(i, j, " ".join(places)), "ok")])
            self.check(console, [("count", answer), ("decide", "plan")])

    def test_orders(self):
        for size, many in [("1 1 1", 1), ("2 2 1", 2), ("3 3 5", 42), ("4 4 2", 24024), ("5 5 1", 701149020)]:
            self.check(console_with("new " + size), [("orders", str(many))])
        self.check(console_with("new 6 6 12"), [("orders", str(count_orders(Way(6, 6, 12))))])

    def test_without(self):
        console = console_with("new 2 2 3")
        before = seen(console)
        self.check(console, [
            ("without 0", "plan"), ("without 0 1", "chain"), ("without 0 1 2", "bad places"), ("without 3", "bad places"),
            ("without 1 1", "plan"), ("undo", "nothing to undo"),
        ])
        self.assertEqual(seen(console), before)

    def test_by_name(self):
        console = Console()
        self.assertEqual(console.run(command="new 1 1 1"), "ok")
        self.assertEqual(console.run(command="decide"), "plan")

    def test_two_consoles(self):
        one, two = Console(), Console()
        one.run("new 2 2 3")
        self.check(two, [("decide", "no way"), ("new 2 2 1", "ok")])
        self.check(one, [("close 0", "ok"), ("decide", "plan")])
        self.check(two, [("decide", "chain"), ("undo", "nothing to undo")])


class FailureTest(ConsoleCase):
    def test_without_a_way(self):
        commands = NO_NUMBERS + ["close 0", "close 99", "allow 9 9 9", "without 0", "without 99 9"]
        for _ in range(2):
            self.check(Console(), [(command, "no way") for command in commands])
        self.check(Console(), [("new 7 7 7", "bad way"), ("decide", "no way"), ("close", "bad command")])

    def test_walkers_come_before_places(self):
        for console in [console_with("new 2 2 2"), self.full()]:
            self.check(console, [
                ("allow 2 0 0", "bad walker"), ("allow 2 2 9", "bad walker"), ("allow 0 2 9", "bad walker"),
                ("allow 0 0 9", "bad places"), ("allow 0 0 0 2", "bad places"),
            ])

    def full(self):
        """A console with 200 changes."""
        console = console_with("new 2 2 2")
        for _ in range(200):
            self.check(console, [("allow 0 0 0 1", "ok")])
        return console

    def test_the_200th_change(self):
        console = self.full()
        before = seen(console)
        expected = [
            ("close 0", "too many changes"), ("close 0 0", "too many changes"), ("allow 0 0 0", "too many changes"),
            ("without 0", "too many changes"), ("without 1", "too many changes"), ("close 0 1", "bad places"),
            ("without 0 1", "bad places"), ("close 2", "bad places"), ("without 2", "bad places"),
            ("allow 0 0 2", "bad places"), ("allow 0 2 2", "bad walker"), ("decide", "plan"), ("count", "4"),
            ("close", "bad command"), ("new 7 1 1", "bad way"),
        ]
        self.check(console, expected)
        self.assertEqual(seen(console), before)
        self.check(console, [("undo", "ok"), ("without 0", "chain"), ("close 0", "ok"), ("decide", "chain")])
        self.check(console, [("left", "no plan"), ("without 0", "too many changes"), ("undo", "ok")])
        self.check(console, [("undo", "ok")] * 199 + [("undo", "nothing to undo")])
        self.check(console, [("new 2 2 2", "ok"), ("close 0", "ok")])

    def test_no_plan(self):
        console = console_with("new 2 2 1")
        self.check(console, [
            ("decide", "chain"), ("left", "no plan"), ("right", "no plan"), ("count", "0"), ("orders", "2"),
            ("without 0", "bad places"), ("close 0", "bad places"), ("undo", "nothing to undo"),
        ])

    def test_failed_commands_change_nothing(self):
        for commands in [("new 2 2 3",), ("new 2 2 3", "close 0", "allow 0 1 2"), ("new 2 2 1",)]:
            console = console_with(*commands)
            before = seen(console)
            failed = ["new 0 1 1", "close 9", "close 0 1 2", "allow 2 2 2", "allow 0 0 9", "without 0 1 2", "x", ""]
            for command in failed:
                self.assertIn(console.run(command)[:4], ["bad ", "no w"], command)
                self.assertEqual(seen(console), before)
            self.check(console, [("undo", "ok")] * (len(commands) - 1) + [("undo", "nothing to undo")])


class DrawnTest(ConsoleCase):
    def random_command(self, chance, size):
        """A command that is often right, or wrong in one or several parts."""
        kind = chance.randrange(12)
        m, n, k = size
        walkers = "{} {}".format(chance.randrange(m + chance.randrange(2)), chance.randrange(n + chance.randrange(2)))
        some = " ".join(str(chance.randrange(k + (chance.randrange(8) == 0))) for _ in range(chance.randint(1, 3)))
        if kind < 3:
            return "close " + some.split(" ")[0] if chance.randrange(3) else "close " + some
        if kind < 7:
            return "allow {} {}".format(walkers, some + " " + " ".join(map(str, range(k))) if kind < 5 else some)
        if kind == 7:
            return "without " + some
        if kind == 8:
            return chance.choice(["", "close", "undo 1", "allow 0 0", "new 1 1", "left ", " count", None, 7, "x"])
        return chance.choice(NO_NUMBERS)

    def check_run(self, chance, size, many):
        console, slow = Console(), SlowConsole()
        found = set()
        self.check_like_slow(console, slow, chance.choice(NO_NUMBERS + ["close 0", "allow 0 0 0", "without 0"]))
        self.check_like_slow(console, slow, "new {} {} {}".format(*size))
        for _ in range(many):
            found.add(self.check_like_slow(console, slow, self.random_command(chance, size)))
            if chance.randrange(6) == 0:
                for question in QUESTIONS:
                    found.add(self.check_like_slow(console, slow, question))
        return found

    def test_small_ways(self):
        chance = random.Random(101)
        found = set()
        for _ in range(60):
            size = (chance.randint(1, 3), chance.randint(1, 3), chance.randint(1, 5))
            found |= self.check_run(chance, size, 50)
        for answer in ["ok", "plan", "chain", "bad command", "bad walker", "bad places", "no plan", "0",
                       "nothing to undo"]:
            self.assertIn(answer, found)

    def test_long_runs(self):
        chance = random.Random(102)
        found = set()
        for size in [(2, 2, 3), (1, 1, 2)]:
            found |= self.check_run(chance, size, 900)
        self.assertIn("too many changes", found)

    def test_great_ways(self):
        chance = random.Random(103)
        found = set()
        for size in [(6, 6, 12), (6, 6, 6), (1, 6, 12), (6, 5, 11)]:
            found |= self.check_run(chance, size, 30)
        self.assertIn("too many plans", found)

    def test_many_words(self):
        console, slow = Console(), SlowConsole()
        for command in ["new 2 2 12", "close" + " 0" * 9000, "without" + " 1" * 9000, "allow 0 0" + " 5 7" * 4500,
                        "decide", "left", "close" + " 0" * 9000 + " 12", "new" + " 1" * 9000, "undo" + " 1" * 9000]:
            self.check_like_slow(console, slow, command)


class OtherModulesTest(ConsoleCase):
    def test_answers(self):
        chance = random.Random(104)
        for _ in range(60):
            size = (chance.randint(1, 4), chance.randint(1, 4), chance.randint(1, 5))
            console, live = console_with("new {} {} {}".format(*size)), LiveWay(Way(*size))
            for _ in range(6):
                right, left = chance.randrange(size[0]), chance.randrange(size[1])
                places = [chance.randrange(size[2]) for _ in range(2)]
                live.allow(right, left, *places)
                self.check(console, [("allow {} {} {} {}".format(right, left, *places), "ok")])
                self.check_answers(console, live.way)

    def check_answers(self, console, way):
        self.check(console, [("orders", str(count_orders(way)))])
        if not has_plan(way):
            self.check(console, [("decide", "chain"), ("left", "no plan"), ("right", "no plan"), ("count", "0")])
            return
        listed = console.run("count")
        if listed != "too many plans":
            self.assertEqual(listed, str(count_plans(way)))
            tables = [plan.cells for plan in plans(way)]
            first = [str(x) for row in tables[0] for x in row]
            last = [str(x) for row in tables[-1] for x in row]
            self.check(console, [("left", " ".join(first)), ("right", " ".join(last))])
        self.check(console, [("decide", "plan")])


class DocumentTest(ConsoleCase):
    def test_example(self):
        console = Console()
        self.assertEqual(
            (console.run("new 2 2 1"), console.run("decide"), console.run("count")), ("ok", "chain", "0"),
        )
