"""A console that performs commands on a live way."""

from passplaces.errors import InvalidPlaces, InvalidWalker, LimitExceeded, NoPlan, NothingToUndo
from passplaces.listing import count_plans
from passplaces.live import LiveWay
from passplaces.orders import count_orders
from passplaces.plans import Plan
from passplaces.texts import number_of
from passplaces.ways import Way

OK = "ok"
PLAN = "plan"
CHAIN = "chain"


def close_places(live, numbers):
    """Close places for all pairs."""
    live.close(*numbers)
    return OK


def allow_places(live, numbers):
    """Allow exactly some places for a pair."""
    live.allow(*numbers)
    return OK


def undo_change(live, _):
    """Undo the latest change."""
    live.undo()
    return OK


def decide(live, _):
    """Tell whether there is a plan or a chain."""
    if live.is_passable:
        return PLAN
    return CHAIN


def show_leftmost(live, _):
    """Return the places of the leftmost plan."""
    return places_of(Plan.leftmost(live.way))


def show_rightmost(live, _):
    """Return the places of the rightmost plan."""
    return places_of(Plan.rightmost(live.way))


def places_of(plan):
    """Return the places of a plan, row by row."""
    return " ".join([str(place) for row in plan.cells for place in row])


def show_count(live, _):
    """Return the number of plans."""
    try:
        return str(count_plans(live.way))
    except LimitExceeded:
        return "too many plans"


def show_orders(live, _):
    """Return the number of orders."""
    return str(count_orders(live.way))


def decide_without(live, numbers):
    """Tell whether there would be a plan or a chain without some places."""
    if live.without(*numbers) is None:
        return CHAIN
    return PLAN


# The commands for a live way.
ACTIONS = {
    "close": close_places,
    "allow": allow_places,
    "undo": undo_change,
    "decide": decide,
    "left": show_leftmost,
    "right": show_rightmost,
    "count": show_count,
    "orders": show_orders,
    "without": decide_without,
}

# The least number of integers of each command that has integers.
LEAST = {"new": 3, "close": 1, "allow": 3, "without": 1}

# The commands that may have more integers.
OPEN_ENDED = ("close", "allow", "without")


class Console:
    """A console that holds a live way, or none at the beginning."""

    def __init__(self):
        self._live = None

    def run(self, command):
        """Perform any value as a command, and return its result or the text of its failure."""
        if not isinstance(command, str):
            return "bad command"
        words = command.split(" ")
        numbers = [number_of(word) for word in words[1:]]
        if not is_command(words[0], numbers):
            return "bad command"
        if words[0] == "new":
            return self._begin(numbers)
        if self._live is None:
            return "no way"
        return performed(words[0], self._live, numbers)

    def _begin(self, numbers):
        """Hold a new live way of this size."""
        if not Way.is_size(*numbers):
            return "bad way"
        self._live = LiveWay(Way(*numbers))
        return OK


def is_command(word, numbers):
    """Return True if a word and numbers, None for what is no number, have the form of a command."""
    if word != "new" and word not in ACTIONS:
        return False
    least = LEAST.get(word, 0)
    if None in numbers or len(numbers) < least:
        return False
    return word in OPEN_ENDED or len(numbers) == least


def performed(word, live, numbers):
    """Return the result of a command for a live way, or the text of its failure."""
    action = ACTIONS[word]
    try:
        return action(live, numbers)
    except InvalidWalker:
        return "bad walker"
    except InvalidPlaces:
        return "bad places"
    except LimitExceeded:
        # The limit of listed plans has been caught where they are counted.
        return "too many changes"
    except NoPlan:
        return "no plan"
    except NothingToUndo:
        return "nothing to undo"
