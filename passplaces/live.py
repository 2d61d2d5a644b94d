"""Live ways, which change over time, and guides, whose plan follows the changes."""

from passplaces.errors import LimitExceeded, NothingToUndo
from passplaces.plans import Plan, has_plan, least_cells
from passplaces.ways import pairs_of, way_with


class LiveWay:
    """A way that changes, and that records its changes so that they can be undone."""

    MAX_CHANGES = 200

    def __init__(self, way):
        self._ways = [way]
        self._log = []
        self._passable = has_plan(way)

    @property
    def way(self):
        """The current way."""
        return self._ways[-1]

    @property
    def log(self):
        """The tuple of the changes that have not been undone."""
        return tuple(self._log)

    @property
    def is_passable(self):
        """True if the current way has a plan."""
        return self._passable

    def __len__(self):
        return len(self._log)

    def __eq__(self, other):
        if not isinstance(other, LiveWay) or isinstance(other, Guide):
            return False
        return self._ways[-1] == other._ways[-1] and self._log == other._log

    def close(self, *places, right=None, left=None):
        """Close places for all pairs of the walkers; None means all."""
        changed = self._closed(places, right, left)
        self._change(changed, ("close", places, right, left))

    def allow(self, right, left, *places):
        """Allow exactly these places for a pair."""
        way = self._ways[-1]
        changed = way.allowing(right, left, *places)
        self._check_limit()
        self._change(changed, ("allow", right, left, places))

    def undo(self):
        """Undo the latest change."""
        if len(self._log) == 0:
            raise NothingToUndo()
        self._log.pop()
        self._ways.pop()
        self._follow()

    def without(self, *places, right=None, left=None):
        """Return the leftmost plan that the way would have after close, or None if it would have none."""
        changed = self._closed(places, right, left)
        if has_plan(changed):
            return Plan.leftmost(changed)
        return None

    def ways(self):
        """Yield the ways after 0, 1, 2, ... of the changes in the log."""
        # The live way may change while the ways are read.
        for way in list(self._ways):
            yield way

    def copy(self):
        """Return an equal live way with the same log."""
        twin = LiveWay(self._ways[0])
        twin._take(self)
        return twin

    def _take(self, other):
        """Become equal to another object of this class."""
        self._ways = list(other._ways)
        self._log = list(other._log)
        self._passable = other._passable

    def _closed(self, places, right, left):
        """Return the way that close makes; raise what close raises."""
        way = self._ways[-1]
        changed = way.closing(*places, right=right, left=left)
        self._check_limit()
        return changed

    def _check_limit(self):
        """Raise LimitExceeded if there is no room for a change."""
        if len(self._log) >= LiveWay.MAX_CHANGES:
            raise LimitExceeded(LiveWay.MAX_CHANGES)

    def _change(self, way, entry):
        """Make a way the current one, with its entry in the log."""
        self._ways.append(way)
        self._log.append(entry)
        self._follow()

    def _follow(self):
        """Work out what depends on the current way, after a change or an undo."""
        self._passable = has_plan(self._ways[-1])


class Guide(LiveWay):
    """A live way with a plan that follows the changes."""

    def __init__(self, way):
        super().__init__(way)
        self._moves = 0
        # The last plan stays when the way loses its plans.
        self._last = None
        self._follow()

    @property
    def course(self):
        """The plan of the guide, or None if the current way has no plan."""
        if self._passable:
            return self._last
        return None

    @property
    def moves(self):
        """The number of places that have changed from plan to plan."""
        return self._moves

    def __eq__(self, other):
        if not isinstance(other, Guide) or self._ways[-1] != other._ways[-1]:
            return False
        return self._log == other._log and self._moves == other._moves and self._last == other._last

    def copy(self):
        """Return an equal guide with the same log."""
        twin = Guide(self._ways[0])
        twin._take(self)
        return twin

    def _take(self, other):
        """Become equal to another guide."""
        super()._take(other)
        self._moves = other._moves
        self._last = other._last

    def _follow(self):
        """Let the plan follow to the current way, if the way has a plan."""
        super()._follow()
        if self._passable:
            before = self._last
            self._last = next_plan(self._ways[-1], before)
            if before is not None:
                self._moves += changed_places(before, self._last)


def next_plan(way, before):
    """Return the plan of a guide on a way that has one, where `before` is its last plan or None."""
    if before is None:
        return Plan.leftmost(way)
    bounded = bounded_way(way, before.cells)
    if bounded is not None and has_plan(bounded):
        return Plan(way, least_cells(bounded))
    return Plan.rightmost(way)


def bounded_way(way, cells):
    """Return a way with only the places that are not less than those of a table, or None if a pair has none."""
    rows = []
    for right in range(way.rights):
        row = []
        for left in range(way.lefts):
            row.append(tuple([place for place in way.allowed(right, left) if place >= cells[right][left]]))
        if () in row:
            return None
        rows.append(tuple(row))
    return way_with(way.places, tuple(rows))


def changed_places(one, two):
    """Return the number of pairs that have other places in two plans of as many walkers."""
    changed = [(i, j) for i, j in pairs_of(one.way) if one.place(i, j) != two.place(i, j)]
    return len(changed)
