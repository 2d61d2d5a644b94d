"""Module passplaces.texts, point [51]: writing and reading ways."""

import random

from passplaces.errors import ParseError
from passplaces.texts import read_way, way_text
from passplaces.ways import Way
from tests.helpers import Case, many_parts, other_kinds
from tests.slow import random_way, small_ways
from tests.slow_texts import slow_text, slow_text_fault

SIZES = [(m, n, k) for m in range(1, 7) for n in range(1, 7) for k in (1, 2, 3, 6, 11, 12)]

# Words that stand nowhere in a text, or only at other places.
WORDS = [
    "way", "pair", "Way", "PAIR", "ways", "pai", "0", "1", "2", "3", "5", "6", "7", "11", "12", "13", "99",
    "00", "01", "007", "-1", "-0", "+1", "1.", "1e1", "0x1", "1_0", "a", "~", "", " ", "9999", "10000", "00001",
    "1,", "(1)", "None", "True", "1" * 4299, "1" * 5000, "0" * 5000, "9" * 19000,
]


class WriteTest(Case):
    def test_drawn_ways(self):
        chance = random.Random(91)
        for size in SIZES:
            for way in [Way(*size), random_way(chance, *size, chance.randint(1, 9))]:
                self.assertEqual(way_text(way), slow_text(way))

    def test_one_pair(self):
        self.assertEqual(way_text(Way(1, 1, 1)), "way 1 1 1\npair 0 0 0")
        self.assertEqual(way_text(way=Way(1, 1, 12).allowing(0, 0, 11, 9, 10)), "way 1 1 12\npair 0 0 9 10 11")

    def test_pairs_are_ascending(self):
        self.assertEqual(
            way_text(Way(2, 2, 1)),
            "way 2 2 1\npair 0 0 0\npair 0 1 0\npair 1 0 0\npair 1 1 0",
        )

    def test_way_stays_as_it_is(self):
        way = Way(2, 2, 3).closing(1)
        table = way.table
        self.assertEqual(way_text(way), way_text(way))
        self.assertEqual(way.table, table)


class ReadTest(Case):
    def test_there_and_back(self):
        chance = random.Random(92)
        for size in SIZES:
            for share in [1, 5, 9]:
                way = random_way(chance, *size, share)
                text = way_text(way)
                found = read_way(text)
                self.assertEqual(found, way)
                self.assertIs(type(found), Way)
                self.assertEqual(way_text(found), text)

    def test_other_numbers_of_places_with_the_same_pairs(self):
        self.assertEqual(read_way("way 1 1 3\npair 0 0 1"), Way(1, 1, 3).allowing(0, 0, 1))
        self.assertEqual(read_way("way 1 1 2\npair 0 0 1"), Way(1, 1, 2).allowing(0, 0, 1))

    def test_by_name(self):
        self.assertEqual(read_way(text="way 1 1 2\npair 0 0 0 1"), Way(1, 1, 2))

    def test_kinds_of_the_table(self):
        way = read_way("way 2 1 3\npair 0 0 0 2\npair 1 0 1")
        self.assertEqual((way.rights, way.lefts, way.places, way.table), (2, 1, 3, (((0, 2),), ((1,),))))
        for row in way.table:
            self.assertEqual([type(row), type(row[0]), type(row[0][0])], [tuple, tuple, int])


class FaultTest(Case):
    def check(self, text):
        """The text is read, or its fault is told, as the slow reader does; True if it is wrong."""
        fault = slow_text_fault(text)
        if fault is None:
            self.assertEqual(way_text(read_way(text)), text)
            return False
        error = self.failure(ParseError, read_way, text)
        self.assertEqual((error.line, error.word), fault, repr(text[:200]))
        return True

    def check_fault(self, text, line, word):
        self.assertEqual(slow_text_fault(text), (line, word), repr(text[:200]))
        self.assertTrue(self.check(text))

    def texts(self):
        chance = random.Random(93)
        ways = [Way(1, 1, 1), Way(1, 2, 3).closing(0, left=1), Way(2, 2, 2), Way(2, 1, 12)]
        return [way_text(way) for way in ways + small_ways(chance, 4, 10 ** 9)]

    def test_the_first_line(self):
        for text, word in [
            ("way", 2), ("way 1", 3), ("way 1 1", 4), ("way 1 1 1 1", 5), ("way 1 1 1 x y", 5), ("ways 1 1 1", 1),
            ("pair 1 1 1", 1), ("way 0 1 1", 2), ("way 7 7 13", 2), ("way 6 7 13", 3), ("way 6 6 13", 4),
            ("way 6 6 0", 4), ("way x", 2), ("way 1 x", 3), ("way 01 1 1", 2), ("way 1 1 012", 4), ("x", 1),
            ("x way", 1), ("way way", 2), ("1 1 1", 1), ("way 1 1 10000", 4), ("way 1 1 9999", 4), ("way -1", 2),
        ]:
            for rest in ["", "\n", "\npair 0 0 0", "\n\n x"]:
                self.check_fault(text + rest, 1, word)

    def test_separation(self):
        for text in ["", " ", "  ", " way 1 1 1", "way 1 1 1 ", "way  1 1 1", "way 1 1  1", "way  ", "x  y"]:
            self.check_fault(text, 1, 0)
            self.check_fault(text + "\n", 1, 0)
            self.check_fault(text + "\npair 0 0 0", 1, 0)
        for text in ["", " ", "x ", " x", "x  y", "pair 0 0 0 ", "pair  0 0 0", " pair 0 0 0", "pair 9  9"]:
            self.check_fault("way 1 1 1\n" + text, 2, 0)
            self.check_fault("way 1 1 1\npair 0 0 0\n" + text, 3, 0)
            self.check_fault("way 1 1 1\npair 0 0 0\n" + text + "\nx", 3, 0)

    def test_separation_comes_first_in_its_line_only(self):
        self.check_fault("xay 1 1 1\n\n", 1, 1)
        self.check_fault("way 1 1 1\npair 0 0 1\n  ", 2, 4)
        self.check_fault("xay 1 1 1 ", 1, 0)

    def test_missing_lines(self):
        self.check_fault("way 1 1 1", 2, 1)
        self.check_fault("way 2 2 1", 2, 1)
        self.check_fault("way 2 2 1\npair 0 0 0\npair 0 1 0\npair 1 0 0", 5, 1)
        self.check_fault("way 6 6 12\npair 0 0 11", 3, 1)

    def test_lines_after_the_last_pair(self):
        text = "way 1 1 2\npair 0 0 0 1"
        for line in ["pair 0 1 0", "way 1 1 2", "x", "pair", "pair 0 0 0 1", "1 1 1"]:
            self.check_fault(text + "\n" + line, 3, 1)
            self.check_fault(text + "\n" + line + "\n\n", 3, 1)
        self.check_fault(text + "\n", 3, 0)
        self.check_fault(text + "\n\n", 3, 0)
        self.check_fault(text + "\n ", 3, 0)

    def test_pair_lines(self):
        for line, word in [
            ("pair", 2), ("pair 0", 3), ("pair 0 0", 4), ("pairs 0 0 0", 1), ("way 0 0 0", 1), ("0 0 0", 1),
            ("pair 1 0 0", 2), ("pair 0 1 0", 3), ("pair 1 1 9", 2), ("pair 00 0 0", 2), ("pair 0 00 0", 3),
            ("pair 0 0 3", 4), ("pair 0 0 x", 4), ("pair 0 0 0 0", 5), ("pair 0 0 1 0", 5), ("pair 0 0 0 3", 5),
            ("pair 0 0 2 2", 5), ("pair 0 0 0 1 2 3", 7), ("pair 0 0 0 1 2 2", 7), ("pair 0 0 0 02", 5),
            ("pair 0 0 0 2 1", 6), ("pair 0 0 1 x 0", 5), ("pair 0 0 -1", 4), ("pair 0 x", 3), ("pair x", 2),
        ]:
            for rest in ["", "\n", "\npair 0 1 0", "\npair 0 1 9"]:
                self.check_fault("way 1 2 3\n" + line + rest, 2, word)

    def test_only_the_next_pair(self):
        head = "way 2 2 1\npair 0 0 0\n"
        self.check_fault(head + "pair 0 0 0\npair 1 0 0\npair 1 1 0", 3, 3)
        self.check_fault(head + "pair 1 0 0\npair 0 1 0\npair 1 1 0", 3, 2)
        self.check_fault(head + "pair 0 1 0\npair 1 1 0\npair 1 0 0", 4, 3)
        self.check_fault(head + "pair 0 1 0\npair 1 0 0\npair 1 0 0", 5, 3)
        self.check_fault(head + "pair 0 1 0\npair 1 0 0\npair 2 1 0", 5, 2)

    def test_another_word_at_each_place(self):
        for text in self.texts():
            lines = [line.split(" ") for line in text.split("\n")]
            for at, line in enumerate(lines):
                for index in range(len(line) + 1):
                    for word in WORDS:
                        self.check_changed(lines, at, line[:index] + [word] + line[index + 1:])
                        self.check_changed(lines, at, line[:index] + [word] + line[index:])
                    self.check_changed(lines, at, line[:index] + line[index + 1:])

    def check_changed(self, lines, at, words):
        changed = lines[:at] + [words] + lines[at + 1:]
        return self.check("\n".join(" ".join(line) for line in changed))

    def test_another_line_at_each_place(self):
        for text in self.texts():
            lines = text.split("\n")
            others = ["", " ", "x", "way 1 1 1", "pair 0 0 0", "pair 1 1 1", lines[0], lines[-1]]
            for at in range(len(lines) + 1):
                for line in others:
                    self.check("\n".join(lines[:at] + [line] + lines[at:]))
                    self.check("\n".join(lines[:at] + [line] + lines[at + 1:]))
                self.check("\n".join(lines[:at] + lines[at + 1:]))
                self.check("\n".join(lines[:at]))

    def test_another_sign_at_each_place(self):
        wrong = 0
        for text in self.texts():
            for at in range(len(text) + 1):
                for sign in [" ", "\n", "  ", "\n\n", "0", "1", "-", "x", ""]:
                    wrong += self.check(text[:at] + sign + text[at:])
                    wrong += self.check(text[:at] + sign + text[at + 1:])
                wrong += self.check(text[:at])
        self.assertGreater(wrong, 1000)

    def test_drawn_changes(self):
        chance = random.Random(94)
        for _ in range(1500):
            size = (chance.randint(1, 6), chance.randint(1, 6), chance.randint(1, 12))
            text = way_text(random_way(chance, *size, chance.randint(1, 9)))
            for _ in range(chance.randint(1, 3)):
                at = chance.randint(0, len(text))
                sign = chance.choice([" ", "\n", "0", "1", "2", "9", "way", "pair", "", "-"])
                text = text[:at] + sign + text[at + chance.randint(0, 2):]
            self.check(text)

    def test_words_of_very_many_digits(self):
        for digits in [5, 20, 4299, 4300, 4301, 5000, 19900, 40000]:
            for word in ["1" * digits, "0" * digits, "9" * digits, "0" * (digits - 1) + "1"]:
                self.check_fault("way " + word + " 1 1", 1, 2)
                self.check_fault("way 1 1 " + word, 1, 4)
                self.check_fault("way 1 1 2\npair " + word + " 0 0", 2, 2)
                self.check_fault("way 1 1 2\npair 0 0 " + word, 2, 4)
                self.check_fault("way 1 1 2\npair 0 0 0 " + word, 2, 5)
                self.check_fault("way 1 1 2\npair 0 0 0 1\n" + word, 3, 1)

    def test_texts_with_very_many_words_and_lines(self):
        self.check_fault("way 1 1 1" + " 1" * 9000, 1, 5)
        self.check_fault("way 1 1 1" + "\npair 0 0 0" * 1500, 3, 1)
        self.check_fault("\n" * 19000, 1, 0)
        self.check_fault(" " * 19000, 1, 0)
        self.check_fault("way 1 1 12\npair 0 0" + " 0" * 9000, 2, 5)

    def test_signs_that_are_no_separators_or_digits(self):
        # They are beyond the texts of the document, but they are no words either.
        for sign in ["\t", "\r", "\x0b", "\x0c", "\x1c", "\x85", "\u2028", "\u00a0"]:
            self.check_fault("way" + sign + "1 1 1\npair 0 0 0", 1, 1)
            self.check_fault("way 1 1 1" + sign + "\npair 0 0 0", 1, 4)
            self.check_fault("way 1 1 1\npair 0 0 0" + sign, 2, 4)
        for digit in ["\u0661", "\u00b2", "\uff11", "\u2460"]:
            self.check_fault("way " + digit + " 1 1\npair 0 0 0", 1, 2)
            self.check_fault("way 1 1 2\npair 0 0 " + digit, 2, 4)


class NoTextTest(Case):
    def test_any_value(self):
        values = [value for value in other_kinds() if not isinstance(value, str)]
        text = "way 1 1 1\npair 0 0 0"
        more = [0, 1, 10 ** 998, text.encode(), bytearray(text.encode()), [text], (text,), {text: text}, Way(1, 1, 1)]
        for value in values + more + [list(text), text.split("\n"), many_parts()]:
            error = self.failure(ParseError, read_way, value)
            self.assertEqual((error.line, error.word), (0, 0))
            self.assertEqual([type(error.line), type(error.word)], [int, int])


class DocumentTest(Case):
    def test_example(self):
        self.assertEqual(
            way_text(Way(1, 2, 3).closing(0, left=1)), "way 1 2 3\npair 0 0 0 1 2\npair 0 1 1 2",
        )
