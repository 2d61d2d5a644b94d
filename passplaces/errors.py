"""The exceptions of the package.

The messages never show the fields: a field may be any object, also one with
so many parts that its text would take forever.
"""


class PassplacesError(ValueError):
    """The base class of all exceptions of the package."""


class InvalidWay(PassplacesError):
    """A number of walkers or places is not one of a way."""

    def __init__(self, part):
        super().__init__("not a number of a way")
        self.part = part


class InvalidWalker(PassplacesError):
    """A value is not the number of a walker of the file."""

    def __init__(self, value):
        super().__init__("not the number of a walker")
        self.value = value


class InvalidPlaces(PassplacesError):
    """A value is not a place, or no place is left (the value is None)."""

    def __init__(self, value=None):
        super().__init__("not a place, or no place is left")
        self.value = value


class InvalidPlan(PassplacesError):
    """A value is not the table of a plan."""

    def __init__(self, part, pair=None):
        super().__init__("not a plan")
        self.part = part
        self.pair = pair


class InvalidChain(PassplacesError):
    """A value is not a chain."""

    def __init__(self, index=None):
        super().__init__("not a chain")
        self.index = index


class InvalidOrder(PassplacesError):
    """A value is not an order."""

    def __init__(self, index=None):
        super().__init__("not an order")
        self.index = index


class InvalidStep(PassplacesError):
    """A step is not possible."""

    def __init__(self, reason):
        super().__init__("not a possible step")
        self.reason = reason


class NoPlan(PassplacesError):
    """The way has no plan, as its chain shows."""

    def __init__(self, chain):
        super().__init__("the way has no plan")
        self.chain = chain


class OtherWay(PassplacesError):
    """A plan belongs to another way."""

    def __init__(self, value):
        super().__init__("a plan of another way")
        self.value = value


class NothingToUndo(PassplacesError):
    """There is nothing to undo."""

    def __init__(self):
        super().__init__("nothing to undo")


class LimitExceeded(PassplacesError):
    """There are more things than a limit lets pass."""

    def __init__(self, limit):
        super().__init__("more than the limit")
        self.limit = limit


class InvalidNumber(PassplacesError):
    """A value is not a number of the things that are numbered."""

    def __init__(self, value):
        super().__init__("not a number in the list")
        self.value = value


class InvalidCosts(PassplacesError):
    """A value is not a table of costs."""

    def __init__(self, pair=None):
        super().__init__("not costs")
        self.pair = pair


class InvalidAnswer(PassplacesError):
    """A part of an answer is wrong."""

    def __init__(self, part):
        super().__init__("not a right answer")
        self.part = part


class ParseError(PassplacesError):
    """A word of a text is not allowed at its place."""

    def __init__(self, line, word):
        super().__init__("not a text of a way")
        self.line = line
        self.word = word
