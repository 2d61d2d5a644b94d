"""Checks of numbers that the modules share."""

from passplaces.errors import InvalidWalker


def is_number(value, low, high):
    """Return True if any value is an integer from low to high."""
    # True and False are integers of Python, but not of the document.
    if isinstance(value, bool) or not isinstance(value, int):
        return False
    return low <= value <= high


def check_walker(value, walkers):
    """Raise InvalidWalker if any value is not the number of one of the walkers."""
    if not is_number(value, 0, walkers - 1):
        raise InvalidWalker(value)
