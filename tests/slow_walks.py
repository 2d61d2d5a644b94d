"""Slow and plain versions of crossings, orders and lists, to compare the program with."""

from tests.slow import pairs_of, slow_conditions


class SlowWalk:
    """A crossing, written word by word after point [12]."""

    def __init__(self, way):
        self.way = way
        self.rights = {i: 0 for i in range(way.rights)}
        self.lefts = {j: 2 * way.places for j in range(way.lefts)}
        self.passed = {}

    def reason(self, step):
        """The reason why a step is not possible, or None."""
        if step[0] == "right":
            return self.right_reason(step[1])
        if step[0] == "left":
            return self.left_reason(step[1])
        return self.meet_reason(step[1], step[2])

    def right_reason(self, i):
        spot, end = self.rights[i], 2 * self.way.places
        if spot == end:
            return "end"
        if i >= 1 and self.rights[i - 1] < spot + 1:
            return "file"
        for j, other in self.lefts.items():
            if other == spot and (i, j) not in self.passed:
                return "facing"
            if other == spot + 1 and (spot + 1) in range(0, end + 1, 2):
                return "facing"
        return self.full_reason(spot + 1)

    def left_reason(self, j):
        spot = self.lefts[j]
        if spot == 0:
            return "end"
        if j >= 1 and self.lefts[j - 1] > spot - 1:
            return "file"
        for i, other in self.rights.items():
            if other == spot and (i, j) not in self.passed:
                return "facing"
            if other == spot - 1 and (spot - 1) in range(0, 2 * self.way.places + 1, 2):
                return "facing"
        return self.full_reason(spot - 1)

    def full_reason(self, spot):
        everybody = list(self.rights.values()) + list(self.lefts.values())
        is_place = spot in range(1, 2 * self.way.places, 2)
        return "full" if is_place and everybody.count(spot) >= 2 else None

    def meet_reason(self, i, j):
        places = {2 * v + 1: v for v in range(self.way.places)}
        if self.rights[i] != self.lefts[j] or self.rights[i] not in places:
            return "apart"
        if (i, j) in self.passed:
            return "passed"
        if places[self.rights[i]] not in self.way.table[i][j]:
            return "place"
        return None

    def perform(self, step):
        if step[0] == "right":
            self.rights[step[1]] += 1
        elif step[0] == "left":
            self.lefts[step[1]] -= 1
        else:
            self.passed[step[1:]] = (self.rights[step[1]] - 1) // 2

    @property
    def spots(self):
        return (tuple(self.rights.values()), tuple(self.lefts.values()))

    @property
    def cells(self):
        return tuple(
            tuple(self.passed.get((i, j)) for j in range(self.way.lefts)) for i in range(self.way.rights)
        )

    @property
    def is_over(self):
        goal = 2 * self.way.places
        return all(spot == goal for spot in self.rights.values()) and not any(self.lefts.values())

    def seen(self):
        return (self.spots, self.cells, self.is_over)


def walked(way, steps):
    """A slow walk after some steps, which must be possible."""
    walk = SlowWalk(way)
    for step in steps:
        assert walk.reason(step) is None, (step, walk.reason(step))
        walk.perform(step)
    return walk


def all_steps(way):
    """All steps of walkers of the way."""
    return (
        [("right", i) for i in range(way.rights)]
        + [("left", j) for j in range(way.lefts)]
        + [("meet", i, j) for i, j in pairs_of(way)]
    )


def before_it(pair):
    """The pairs that must come before a pair in an order."""
    i, j = pair
    return [other for other in [(i, j - 1), (i - 1, j)] if min(other) >= 0]


def next_pairs(way, begun):
    return [pair for pair in pairs_of(way) if pair not in begun and all(x in begun for x in before_it(pair))]


def slow_orders(way):
    """All orders, ascending."""
    found = []
    waiting = [()]
    while waiting:
        begun = waiting.pop()
        if len(begun) == way.rights * way.lefts:
            found.append(begun)
        waiting.extend(begun + (pair,) for pair in next_pairs(way, begun))
    return sorted(found)


def random_order(chance, way):
    begun = ()
    while len(begun) < way.rights * way.lefts:
        begun += (chance.choice(next_pairs(way, begun)),)
    return begun


def is_pair_of(way, item):
    return (
        type(item) is tuple and len(item) == 2 and all(type(number) is int for number in item)
        and 0 <= item[0] < way.rights and 0 <= item[1] < way.lefts
    )


def slow_order_fault(way, order):
    """The index of the InvalidOrder of any value, or -1 for an order."""
    if type(order) is not tuple or len(order) != way.rights * way.lefts:
        return None
    for index, item in enumerate(order):
        if not is_pair_of(way, item) or item in order[:index]:
            return index
        if any(other not in order[:index] for other in before_it(item)):
            return index
    return -1


def random_cells(chance, way, cells):
    """The table of a random plan, by many random changes of a plan's table."""
    triples = slow_conditions(way)
    pairs = pairs_of(way)
    places = {(i, j): cells[i][j] for i, j in pairs}
    for _ in range(12 * len(pairs)):
        pair = chance.choice(pairs)
        before = places[pair]
        places[pair] = chance.choice(way.table[pair[0]][pair[1]])
        if not all(places[a] >= places[b] + w for a, b, w in triples if pair in (a, b)):
            places[pair] = before
    return tuple(tuple(places[(i, j)] for j in range(way.lefts)) for i in range(way.rights))


def slow_count(way):
    """The number of plans, pair by pair, with the places that still matter."""
    counts = {(): 1}
    for i, j in pairs_of(way):
        longer = {}
        for begun, many in counts.items():
            for place in way.table[i][j]:
                if fits(way, begun, j, place, i):
                    key = (begun + (place,))[-(way.lefts + 1):]
                    longer[key] = longer.get(key, 0) + many
        counts = longer
    return sum(counts.values())


def fits(way, begun, j, place, i):
    """True if a place for the pair (i, j) fits the places of the pairs before, the last ones of which are begun."""
    if j > 0 and not begun[-1] <= place:
        return False
    if i > 0 and not place <= begun[-way.lefts]:
        return False
    # The pair (i, j) is below (i - 1, j + 1) with the difference 1.
    return not (i > 0 and j + 1 < way.lefts and not place + 1 <= begun[-way.lefts + 1])


def way_of(full, masks):
    """A way in which the bits of a number tell the allowed places of each pair."""
    way = full
    for i, j in pairs_of(full):
        way = way.allowing(i, j, *[place for place in range(full.places) if masks[i][j] >> place & 1])
    return way
