"""Slow and plain versions of the texts and commands, to compare the program with."""

import re
from math import factorial

from tests.slow import pairs_of, slow_greatest, slow_least
from tests.slow_live import SlowLive
from tests.slow_walks import slow_count
from passplaces.ways import Way

NUMBER = "(0|[1-9][0-9]{0,3})"
BAD_LINE = re.compile(r"\Z|.* \Z| |.*  ")

COMMAND = re.compile(
    rf"(new( {NUMBER}){{3}}|close( {NUMBER})+|allow( {NUMBER}){{3,}}|without( {NUMBER})+"
    r"|undo|decide|left|right|count|orders)\Z"
)

FAILURES = {"walker": "bad walker", "places": "bad places", "limit": "too many changes"}


def words_from(low, high):
    return {str(number) for number in range(low, high + 1)}


def allowed_words(size, line, before):
    """The words that are allowed behind some words of a line, and whether the line may end there."""
    if line == 1:
        choices = [{"way"}, words_from(1, 6), words_from(1, 6), words_from(1, 12)]
        return (choices[len(before)], False) if len(before) < 4 else (set(), True)
    pairs = [(i, j) for i in range(size[0]) for j in range(size[1])]
    if line - 2 >= len(pairs):
        return (set(), False)
    i, j = pairs[line - 2]
    if len(before) < 3:
        return ([{"pair"}, {str(i)}, {str(j)}][len(before)], False)
    least = int(before[-1]) + 1 if len(before) > 3 else 0
    return (words_from(least, size[2] - 1), len(before) > 3)


def slow_text_fault(text):
    """The line and the word of the ParseError of a text, or None."""
    lines = text.split("\n")
    size = None
    for line, content in enumerate(lines, 1):
        if BAD_LINE.match(content):
            return (line, 0)
        words = content.split(" ")
        for index, word in enumerate(words):
            if word not in allowed_words(size, line, words[:index])[0]:
                return (line, index + 1)
        if not allowed_words(size, line, words)[1]:
            return (line, len(words) + 1)
        if line == 1:
            size = [int(word) for word in words[1:]]
    if len(lines) < size[0] * size[1] + 1:
        return (len(lines) + 1, 1)
    return None


def slow_text(way):
    text = "way {} {} {}".format(way.rights, way.lefts, way.places)
    for i, j in pairs_of(way):
        text += "\npair {} {}".format(i, j)
        for place in way.table[i][j]:
            text += " {}".format(place)
    return text


class SlowConsole:
    """A console, word by word after the table of the document."""

    def __init__(self):
        self.live = None

    def run(self, command):
        if type(command) is not str or not COMMAND.match(command):
            return "bad command"
        name, *words = command.split(" ")
        numbers = tuple(int(word) for word in words)
        if name == "new":
            return self.begin(numbers)
        if self.live is None:
            return "no way"
        if name in ("close", "allow", "without"):
            return self.change(name, numbers)
        if name == "undo":
            if not self.live.log:
                return "nothing to undo"
            self.live.undo()
            return "ok"
        return self.answer(name, self.live.way)

    def begin(self, numbers):
        if not (1 <= numbers[0] <= 6 and 1 <= numbers[1] <= 6 and 1 <= numbers[2] <= 12):
            return "bad way"
        self.live = SlowLive(Way(*numbers))
        return "ok"

    def change(self, name, numbers):
        change = ("close", numbers, None, None)
        if name == "allow":
            change = ("allow", numbers[0], numbers[1], numbers[2:])
        found = self.live.change(change)
        if found is not None:
            return FAILURES[found[0]]
        if name != "without":
            return "ok"
        answer = self.answer("decide", self.live.way)
        self.live.undo()
        return answer

    def answer(self, name, way):
        least, greatest = slow_least(way), slow_greatest(way)
        if name == "decide":
            return "chain" if least is None else "plan"
        if name == "count":
            many = 0 if least is None else slow_count(way)
            return str(many) if many <= 500 else "too many plans"
        if name == "orders":
            product = 1
            for i, j in pairs_of(way):
                product *= way.rights - i + way.lefts - j - 1
            return str(factorial(way.rights * way.lefts) // product)
        if least is None:
            return "no plan"
        cells = least if name == "left" else greatest
        return " ".join(str(cells[i][j]) for i, j in pairs_of(way))
