"""A slow and plain record of point [50], to compare live ways and guides with."""

from tests.slow import bound_table, pairs_of, slow_greatest, slow_least, slow_plans, table_count
from passplaces.ways import Way

LIMIT = 200


def is_in(value, many):
    return type(value) is int and 0 <= value < many


class SlowLive:
    """A live way that keeps all its tables, with its own closing and allowing."""

    def __init__(self, way):
        self.size = (way.rights, way.lefts, way.places)
        self.tables = [way.table]
        self.log = []

    @property
    def way(self):
        return way_of_table(self.size, self.tables[-1])

    def table_after(self, change):
        """The table after a change, or the kind and the value of the error that it raises."""
        if change[0] == "close":
            _, places, right, left = change
            return self.closed(places, right, left)
        _, right, left, places = change
        return self.allowed(right, left, places)

    def closed(self, places, right, left):
        if right is not None and not is_in(right, self.size[0]):
            return ("walker", right)
        if left is not None and not is_in(left, self.size[1]):
            return ("walker", left)
        for place in places:
            if not is_in(place, self.size[2]):
                return ("places", place)
        rows = [list(row) for row in self.tables[-1]]
        for i in range(self.size[0]):
            for j in range(self.size[1]):
                if right in (None, i) and left in (None, j):
                    rows[i][j] = tuple(x for x in rows[i][j] if x not in places)
        return self.table_if_right(rows)

    def allowed(self, right, left, places):
        if not is_in(right, self.size[0]):
            return ("walker", right)
        if not is_in(left, self.size[1]):
            return ("walker", left)
        for place in places:
            if not is_in(place, self.size[2]):
                return ("places", place)
        rows = [list(row) for row in self.tables[-1]]
        rows[right][left] = tuple(sorted(set(places)))
        return self.table_if_right(rows)

    def table_if_right(self, rows):
        if any(cell == () for row in rows for cell in row):
            return ("places", None)
        if len(self.log) >= LIMIT:
            return ("limit", LIMIT)
        return tuple(tuple(row) for row in rows)

    def change(self, change):
        """Perform a change; return the kind and the value of its error, or None."""
        found = self.table_after(change)
        if type(found[0]) is str:
            return found
        self.tables.append(found)
        self.log.append(change)
        self.follow()
        return None

    def undo(self):
        self.tables.pop()
        self.log.pop()
        self.follow()

    def follow(self):
        pass


class SlowGuide(SlowLive):
    """A guide, by a search through all plans, or by raising places in ways with very many plans."""

    def __init__(self, way):
        super().__init__(way)
        self.last = None
        self.last_table = None
        self.has_course = False
        self.moves = 0
        self.follow()

    @property
    def course(self):
        return self.last if self.has_course else None

    def follow(self):
        found = next_cells(self.way, self.last)
        self.has_course = found is not None
        if found is not None:
            if self.last is not None:
                self.moves += sum(1 for i, j in pairs_of(self.way) if found[i][j] != self.last[i][j])
            self.last = found
            self.last_table = self.tables[-1]


def way_of_table(size, table):
    way = Way(*size)
    for i, j in pairs_of(way):
        if table[i][j] != way.table[i][j]:
            way = way.allowing(i, j, *table[i][j])
    return way


def next_cells(way, last):
    """The table of a guide's plan after a change, or None."""
    if table_count(way) <= 3000:
        return searched_cells(way, last)
    least = slow_least(way)
    if least is None or last is None:
        return least
    table = tuple(
        tuple(tuple(x for x in way.table[i][j] if x >= last[i][j]) for j in range(way.lefts))
        for i in range(way.rights)
    )
    raised = None
    if all(cell != () for row in table for cell in row):
        raised = slow_least(way_of_table((way.rights, way.lefts, way.places), table))
    return slow_greatest(way) if raised is None else raised


def searched_cells(way, last):
    tables = slow_plans(way)
    if not tables:
        return None
    if last is None:
        return bound_table(way, tables, min)
    higher = [cells for cells in tables if all(cells[i][j] >= last[i][j] for i, j in pairs_of(way))]
    if higher:
        return bound_table(way, higher, min)
    return bound_table(way, tables, max)


def random_change(chance, size, share):
    """A change with right arguments; a share of ten of the changes is of the kind allow."""
    rights, lefts, places = size
    if chance.randrange(10) < share:
        many = chance.randint(1, places)
        some = tuple(chance.choice(range(places)) for _ in range(many))
        return ("allow", chance.randrange(rights), chance.randrange(lefts), some)
    some = tuple(chance.choice(range(places)) for _ in range(chance.choice([0, 1, 1, 1, 2])))
    right = chance.choice([None, chance.randrange(rights)])
    left = chance.choice([None, chance.randrange(lefts)])
    return ("close", some, right, left)


def performed(live, change):
    """What a live way returns for a change."""
    if change[0] == "close":
        return live.close(*change[1], right=change[2], left=change[3])
    return live.allow(change[1], change[2], *change[3])
