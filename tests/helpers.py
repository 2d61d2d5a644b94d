"""Values of wrong kinds, a watchdog, and a test case with exact exceptions."""

import faulthandler
import sys
import unittest

SECONDS = 120


def nested(make, depth):
    """A value that is nested this deep, with one part at each depth."""
    value = make(0)
    for _ in range(depth - 1):
        value = make(value)
    return value


def many_parts(pair=lambda part: (part, part)):
    """A value with more than 2 ** 60 parts, made of few objects."""
    value = pair(0)
    for _ in range(69):
        value = pair(value)
    return value


def other_kinds():
    """New values that are not integers."""
    return [
        True,
        False,
        None,
        "",
        "0",
        "a text\nof lines",
        b"",
        b"\x00\x01",
        [],
        [0],
        [0, 0],
        (),
        (0,),
        (0, 0),
        ((0, 0), 0),
        {},
        {0: 0},
        {0},
        frozenset([0]),
        range(2),
        object(),
        int,
        len,
        nested(lambda part: (part,), 100),
        nested(lambda part: [part], 100),
        many_parts(),
        many_parts(lambda part: [part, part]),
        many_parts(lambda part: {0: part, 1: part}),
    ]


def not_numbers(low, high):
    """Values that are not integers from low to high."""
    beyond = [low - 1, low - 2, high + 1, high + 2, -(10 ** 998), 10 ** 998, 2 ** 64, -(2 ** 64)]
    return beyond + other_kinds()


class Case(unittest.TestCase):
    """A test case that is ended from outside if a call takes far too long.

    A signal cannot interrupt a comparison or a hash of a value with very many
    parts, so a thread ends the whole run.
    """

    def setUp(self):
        faulthandler.dump_traceback_later(SECONDS, exit=True, file=sys.__stderr__)
        self.addCleanup(faulthandler.cancel_dump_traceback_later)

    def failure(self, kind, function, *args, **kwargs):
        """The exception of exactly this class that the call raises."""
        with self.assertRaises(kind) as caught:
            function(*args, **kwargs)
        self.assertEqual(type(caught.exception).__name__, kind.__name__)
        # The text of an exception must not go through the parts of its fields.
        self.assertIsInstance(str(caught.exception) + repr(caught.exception), str)
        return caught.exception
