"""Plans: the possible tables of meeting places, and chains as reasons why there is none."""

from passplaces.checks import check_walker, is_number
from passplaces.errors import InvalidChain, InvalidPlan, NoPlan, OtherWay
from passplaces.ways import below, conditions, is_pair, pairs_of, with_cell


def has_plan(way):
    """Return True if the way has a plan, and False otherwise."""
    return chain_of(way) is None


def chain_of(way):
    """Return a chain of the way, or None if there is a plan."""
    found, forced = climb(way)
    blocked = [key for key in found if found[key] is None]
    if len(blocked) == 0:
        return None
    entries = []
    pair = blocked[0]
    while pair is not None:
        entries.append((pair, found[pair]))
        pair = forced[pair]
    return tuple(reversed(entries))


def check_chain(way, chain):
    """Raise InvalidChain if any value is not a chain of the way."""
    if not isinstance(chain, tuple) or len(chain) < 2:
        raise InvalidChain(None)
    for index in range(len(chain)):
        if not is_right_entry(way, chain, index):
            raise InvalidChain(index)


def is_right_entry(way, chain, index):
    """Return True if an entry is right, where all entries before it are."""
    entry = chain[index]
    if not is_entry(way, entry):
        return False
    pair, place = entry
    if (place is None) != (index == len(chain) - 1):
        return False
    places = way.allowed(*pair)
    if index == 0:
        return place == places[0]
    before, reached = chain[index - 1]
    for lower, difference in below(way, pair):
        if lower == before:
            return place == least_from(places, reached + difference)
    return False


def is_entry(way, value):
    """Return True if any value is a tuple of a pair of walkers and a place or None."""
    if not isinstance(value, tuple) or len(value) != 2:
        return False
    pair, place = value
    return is_pair(way, pair) and (place is None or is_number(place, 0, way.places - 1))


def least_from(places, bound):
    """Return the first of the ascending places that is at least the bound, or None."""
    for place in places:
        if place >= bound:
            return place
    return None


def upward(way):
    """Return a list of the pairs in which every pair comes after the pairs below it."""
    return [(right, left) for right in reversed(range(way.rights)) for left in range(way.lefts)]


def climb(way):
    """Return dicts of the least place that each pair can have, and of the pair that forces it there.

    A pair that stands at its own least place is forced by None. The climb
    ends at the first pair for which no place is left: its place is None.
    """
    found = {}
    forced = {}
    for pair in upward(way):
        places = way.allowed(*pair)
        found[pair] = places[0]
        forced[pair] = None
        for lower, difference in below(way, pair):
            place = least_from(places, found[lower] + difference)
            if place is None or place > found[pair]:
                found[pair] = place
                forced[pair] = lower
            if place is None:
                return found, forced
    return found, forced


def check_passable(way):
    """Raise NoPlan if the way has no plan."""
    chain = chain_of(way)
    if chain is not None:
        raise NoPlan(chain)


def least_cells(way):
    """Return the table of the leftmost plan of a way that has one."""
    found, _ = climb(way)
    return tuple([tuple([found[(right, left)] for left in range(way.lefts)]) for right in range(way.rights)])


def greatest_cells(way):
    """Return the table of the rightmost plan of a way that has one."""
    # Seen from the other side, the rightmost plan is the leftmost one.
    seen = least_cells(way.mirrored())
    last = way.places - 1
    return tuple([tuple([last - seen[left][right] for left in range(way.lefts)]) for right in range(way.rights)])


def is_table(way, value):
    """Return True if any value is a tuple of rows of the right lengths."""
    if not isinstance(value, tuple) or len(value) != way.rights:
        return False
    for row in value:
        if not isinstance(row, tuple) or len(row) != way.lefts:
            return False
    return True


def fault_of(way, cells):
    """Return the part and the pair of InvalidPlan for any value, or None if it is a plan's table."""
    if not is_table(way, cells):
        return ("form", None)
    for right, left in pairs_of(way):
        cell = cells[right][left]
        # Only a number is looked up: True would be found as 1.
        if not is_number(cell, 0, way.places - 1) or cell not in way.allowed(right, left):
            return ("place", (right, left))
    for (right, left), (low_right, low_left), difference in conditions(way):
        if cells[right][left] < cells[low_right][low_left] + difference:
            return ("order", (right, left))
    return None


def lesser_cells(first, second):
    """Return the table with the lesser places of two tables."""
    return tuple([tuple([min(x, y) for x, y in zip(a, b)]) for a, b in zip(first, second)])


def greater_cells(first, second):
    """Return the table with the greater places of two tables."""
    return tuple([tuple([max(x, y) for x, y in zip(a, b)]) for a, b in zip(first, second)])


def ranks_of(way, cells):
    """Return a list of the ranks of all places of a table, ascending by the pairs."""
    ranks = []
    for right, left in pairs_of(way):
        cell = cells[right][left]
        ranks.append(len([place for place in way.table[right][left] if place < cell]))
    return ranks


def neighbours(places, place):
    """Return a list of the next lesser and the next greater of the ascending places, where they exist."""
    lesser = [x for x in places if x < place]
    greater = [x for x in places if x > place]
    return lesser[-1:] + greater[:1]


def places_between(places, start, end):
    """Return a list of the ascending places on the way from start to end, without start."""
    if start < end:
        return [x for x in places if start < x <= end]
    return [x for x in reversed(places) if end <= x < start]


def moved_tables(way, start, end, pairs):
    """Return a list of the tables that arise when the pairs, in turn, go place by place to the end."""
    tables = []
    cells = start
    for right, left in pairs:
        stops = places_between(way.allowed(right, left), start[right][left], end[right][left])
        for place in stops:
            cells = with_cell(cells, right, left, place)
            tables.append(cells)
    return tables


class Plan:
    """A plan: a table of places that satisfies the conditions of its way."""

    def __init__(self, way, cells):
        fault = fault_of(way, cells)
        if fault is not None:
            part, pair = fault
            raise InvalidPlan(part, pair)
        self._way = way
        self._cells = cells

    @staticmethod
    def is_plan(way, cells):
        """Return True if any value is the table of a plan of the way."""
        return fault_of(way, cells) is None

    @classmethod
    def leftmost(cls, way):
        """Return the plan with the least places."""
        check_passable(way)
        return cls(way, least_cells(way))

    @classmethod
    def rightmost(cls, way):
        """Return the plan with the greatest places."""
        check_passable(way)
        return cls(way, greatest_cells(way))

    @property
    def way(self):
        """The way of the plan."""
        return self._way

    @property
    def cells(self):
        """The table of the plan."""
        return self._cells

    @property
    def rank_sum(self):
        """The sum of the ranks of all places."""
        return sum(ranks_of(self._way, self._cells))

    def __eq__(self, other):
        return isinstance(other, Plan) and self._way == other._way and self._cells == other._cells

    def place(self, right, left):
        """Return the place of a pair."""
        check_walker(right, self._way.rights)
        check_walker(left, self._way.lefts)
        return self._cells[right][left]

    def lowest(self, *others):
        """Return the plan with the least places of this plan and the others."""
        self._check_ways(others)
        cells = self._cells
        for other in others:
            cells = lesser_cells(cells, other.cells)
        return Plan(self._way, cells)

    def highest(self, *others):
        """Return the plan with the greatest places of this plan and the others."""
        self._check_ways(others)
        cells = self._cells
        for other in others:
            cells = greater_cells(cells, other.cells)
        return Plan(self._way, cells)

    def is_left_of(self, other):
        """Return True if no place of this plan is greater than that of the other one."""
        self._check_ways([other])
        return lesser_cells(self._cells, other.cells) == self._cells

    def distance(self, other):
        """Return the least number of shifts between this plan and the other one."""
        self._check_ways([other])
        own = ranks_of(self._way, self._cells)
        return sum([abs(x - y) for x, y in zip(own, ranks_of(self._way, other.cells))])

    def shifts(self):
        """Yield the plans that a shift makes of this one, ascending by their tables."""
        tables = []
        for right, left in pairs_of(self._way):
            places = self._way.allowed(right, left)
            for place in neighbours(places, self._cells[right][left]):
                tables.append(with_cell(self._cells, right, left, place))
        for cells in sorted(tables):
            if Plan.is_plan(self._way, cells):
                yield Plan(self._way, cells)

    def path_to(self, other):
        """Yield the plans of a shortest path of shifts from this plan to the other one."""
        self._check_ways([other])
        pairs = upward(self._way)
        top = greater_cells(self._cells, other.cells)
        # A pair rises after the pairs above it and falls after the pairs below
        # it, so each table on the path satisfies the conditions.
        rising = moved_tables(self._way, self._cells, top, list(reversed(pairs)))
        falling = moved_tables(self._way, top, other.cells, pairs)
        for cells in [self._cells] + rising + falling:
            yield Plan(self._way, cells)

    def _check_ways(self, others):
        for other in others:
            if self._way != other.way:
                raise OtherWay(other)
