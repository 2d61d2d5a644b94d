"""Checks of numbers that the modules share."""

from passplaces.errors import InvalidWalker


def is_int(value):
    """Return True if any value is an integer."""
    # True and False are integers of Python, but not of the document.
    return isinstance(value, int) and not isinstance(value, bool)


def is_number(value, low, high):
    """Return True if any value is an integer from low to high."""
    return is_int(value) and low <= value <= high


def check_walker(value, walkers):
    """Raise InvalidWalker if any value is not the number of one of the walkers."""
    if not is_number(value, 0, walkers - 1):
        raise InvalidWalker(value)
