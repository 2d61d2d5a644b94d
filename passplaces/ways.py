"""Ways: the walkers, the places, and the conditions between pairs."""

from passplaces.checks import check_walker, is_number
from passplaces.errors import InvalidPlaces, InvalidWay


class Way:
    """A way: the numbers of walkers and places, and the allowed places of each pair."""

    MAX_WALKERS = 6
    MAX_PLACES = 12

    def __init__(self, rights, lefts, places):
        part = wrong_part(rights, lefts, places)
        if part is not None:
            raise InvalidWay(part)
        self._rights = rights
        self._lefts = lefts
        self._places = places
        self._table = ((tuple(range(places)),) * lefts,) * rights

    @staticmethod
    def is_size(rights, lefts, places):
        """Return True if any values are the numbers of a way."""
        return wrong_part(rights, lefts, places) is None

    @classmethod
    def square(cls, walkers):
        """Return a way with as many places as walkers in each file."""
        return cls(walkers, walkers, walkers)

    @property
    def rights(self):
        """The number of right walkers."""
        return self._rights

    @property
    def lefts(self):
        """The number of left walkers."""
        return self._lefts

    @property
    def places(self):
        """The number of places."""
        return self._places

    @property
    def table(self):
        """The rows with the tuples of allowed places."""
        return self._table

    def __len__(self):
        return len(pairs_of(self))

    def __eq__(self, other):
        # Equal tables have as many rows and columns, so the walkers are equal, too.
        return isinstance(other, Way) and self._places == other._places and self._table == other._table

    def allowed(self, right, left):
        """Return the allowed places of a pair."""
        check_walker(right, self._rights)
        check_walker(left, self._lefts)
        return self._table[right][left]

    def allowing(self, right, left, *places):
        """Return a new way in which exactly these places are allowed for the pair."""
        check_walker(right, self._rights)
        check_walker(left, self._lefts)
        chosen = self._checked_places(places)
        if len(chosen) == 0:
            raise InvalidPlaces(None)
        return way_with(self._places, with_cell(self._table, right, left, chosen))

    def closing(self, *places, right=None, left=None):
        """Return a new way without these places for all pairs of the walkers; None means all."""
        if right is not None:
            check_walker(right, self._rights)
        if left is not None:
            check_walker(left, self._lefts)
        closed = self._checked_places(places)
        table = self._table
        for one, two in pairs_of(self):
            if (right is None or right == one) and (left is None or left == two):
                still = tuple([place for place in self._table[one][two] if place not in closed])
                if len(still) == 0:
                    raise InvalidPlaces(None)
                table = with_cell(table, one, two, still)
        return way_with(self._places, table)

    def mirrored(self):
        """Return the way seen from the other side."""
        rows = []
        for left in range(self._lefts):
            rows.append(tuple([self._seen_places(right, left) for right in range(self._rights)]))
        return way_with(self._places, tuple(rows))

    def _checked_places(self, values):
        """Return the tuple of the places, ascending and each once; raise InvalidPlaces for other values."""
        for value in values:
            if not is_number(value, 0, self._places - 1):
                raise InvalidPlaces(value)
        return tuple([place for place in range(self._places) if place in values])

    def _seen_places(self, right, left):
        return tuple([self._places - 1 - place for place in reversed(self._table[right][left])])


def wrong_part(rights, lefts, places):
    """Return the name of the first value that is not a number of a way, or None."""
    if not is_number(rights, 1, Way.MAX_WALKERS):
        return "rights"
    if not is_number(lefts, 1, Way.MAX_WALKERS):
        return "lefts"
    if not is_number(places, 1, Way.MAX_PLACES):
        return "places"
    return None


def way_with(places, table):
    """Return a way with this number of places and this table of allowed places."""
    way = Way(len(table), len(table[0]), places)
    way._table = table
    return way


def with_cell(table, right, left, cell):
    """Return a table with another item for one pair."""
    row = table[right][:left] + (cell,) + table[right][left + 1:]
    return table[:right] + (row,) + table[right + 1:]


def pairs_of(way):
    """Return a list of the pairs, ascending."""
    return [(right, left) for right in range(way.rights) for left in range(way.lefts)]


def is_pair(way, value):
    """Return True if any value is a pair of the numbers of a right and a left walker."""
    if not isinstance(value, tuple) or len(value) != 2:
        return False
    return is_number(value[0], 0, way.rights - 1) and is_number(value[1], 0, way.lefts - 1)


def below(way, pair):
    """Return a list (b, w) of the pairs below a pair with their differences, ascending."""
    right, left = pair
    found = []
    if left > 0:
        found.append(((right, left - 1), 0))
    if left > 0 and right + 1 < way.rights:
        found.append(((right + 1, left - 1), 1))
    if right + 1 < way.rights:
        found.append(((right + 1, left), 0))
    return found


def conditions(way):
    """Yield the conditions as triples (a, b, w), ascending."""
    for pair in pairs_of(way):
        for lower, difference in below(way, pair):
            yield (pair, lower, difference)
