"""Texts of ways."""

from passplaces.errors import ParseError
from passplaces.ways import Way, pairs_of

MAX_DIGITS = 4


def way_text(way):
    """Return the text of a way."""
    lines = [line_of("way", [way.rights, way.lefts, way.places])]
    for right, left in pairs_of(way):
        lines.append(line_of("pair", [right, left] + list(way.allowed(right, left))))
    return "\n".join(lines)


def line_of(word, numbers):
    """Return a line of a word and numbers."""
    return " ".join([word] + [str(number) for number in numbers])


def read_way(text):
    """Return the way of a text; raise ParseError for any other value."""
    if not isinstance(text, str):
        raise ParseError(0, 0)
    lines = text.split("\n")
    rights, lefts, places = read_size(words_of(lines, 1))
    way = Way(rights, lefts, places)
    line = 1
    for pair in pairs_of(way):
        line += 1
        chosen = read_places(words_of(lines, line), line, pair, places)
        way = way.allowing(pair[0], pair[1], *chosen)
    if line < len(lines):
        # Words that are not separated as described count first.
        words_of(lines, line + 1)
        raise ParseError(line + 1, 1)
    return way


def words_of(lines, line):
    """Return a list of the words of the line with this number; raise ParseError if it is missing or malformed."""
    if line > len(lines):
        raise ParseError(line, 1)
    words = lines[line - 1].split(" ")
    if "" in words:
        raise ParseError(line, 0)
    return words


def read_size(words):
    """Return a list of the three numbers of a line "way"."""
    check_word(words, 1, "way")
    numbers = []
    for high in (Way.MAX_WALKERS, Way.MAX_WALKERS, Way.MAX_PLACES):
        numbers.append(read_number(words, 1, len(numbers) + 2, 1, high))
    if len(words) > 4:
        raise ParseError(1, 5)
    return numbers


def read_places(words, line, pair, many):
    """Return a list of the places of a line "pair" of a way with so many places."""
    check_word(words, line, "pair")
    read_number(words, line, 2, pair[0], pair[0])
    read_number(words, line, 3, pair[1], pair[1])
    places = [read_number(words, line, 4, 0, many - 1)]
    for word in range(5, len(words) + 1):
        places.append(read_number(words, line, word, places[-1] + 1, many - 1))
    return places


def check_word(words, line, expected):
    """Raise ParseError if the first word of a line is not the expected one."""
    if words[0] != expected:
        raise ParseError(line, 1)


def read_number(words, line, word, low, high):
    """Return a word of a line as a number; raise ParseError if it is missing or not a number from low to high."""
    number = None
    if word <= len(words):
        number = number_of(words[word - 1])
    if number is None or not low <= number <= high:
        raise ParseError(line, word)
    return number


def number_of(word):
    """Return the number that a word of a text stands for, or None if it is not written as one."""
    if len(word) < 1 or len(word) > MAX_DIGITS:
        return None
    for sign in word:
        # Python counts more signs as digits than the ten of the document.
        if sign not in "0123456789":
            return None
    if len(word) > 1 and word[0] == "0":
        return None
    return int(word)
