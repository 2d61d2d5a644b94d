"""Slow and plain versions of the definitions, to compare the program with."""

from collections import deque
from itertools import product

from passplaces.ways import Way


def pairs_of(way):
    return [(i, j) for i in range(way.rights) for j in range(way.lefts)]


def slow_conditions(way):
    """All triples (a, b, w), by trying all pairs of pairs."""
    found = []
    for a, b in product(pairs_of(way), repeat=2):
        i, j = a
        if b == (i, j - 1):
            found.append((a, b, 0))
        if b == (i + 1, j):
            found.append((a, b, 0))
        if b == (i + 1, j - 1):
            found.append((a, b, 1))
    return sorted(found)


def slow_tables(way):
    """All tables of allowed places, ascending."""
    pairs = pairs_of(way)
    for places in product(*[way.table[i][j] for i, j in pairs]):
        yield tuple(places[i * way.lefts:(i + 1) * way.lefts] for i in range(way.rights))


def is_slow_plan(way, cells):
    return all(cells[a[0]][a[1]] >= cells[b[0]][b[1]] + w for a, b, w in slow_conditions(way))


def slow_plans(way):
    """The tables of all plans, ascending."""
    triples = slow_conditions(way)
    return [
        cells for cells in slow_tables(way)
        if all(cells[a[0]][a[1]] >= cells[b[0]][b[1]] + w for a, b, w in triples)
    ]


def slow_fault(way, cells):
    """The part and the pair of the InvalidPlan of a value, or None."""
    if type(cells) is not tuple or len(cells) != way.rights:
        return ("form", None)
    for row in cells:
        if type(row) is not tuple or len(row) != way.lefts:
            return ("form", None)
    for i, j in pairs_of(way):
        if not any(type(cells[i][j]) is int and cells[i][j] == place for place in way.table[i][j]):
            return ("place", (i, j))
    for a, b, w in slow_conditions(way):
        if not cells[a[0]][a[1]] >= cells[b[0]][b[1]] + w:
            return ("order", a)
    return None


def bound_table(way, tables, choose):
    """The table with the least or greatest places of some tables."""
    return tuple(
        tuple(choose(cells[i][j] for cells in tables) for j in range(way.lefts))
        for i in range(way.rights)
    )


def rank(way, pair, place):
    return sum(1 for other in way.table[pair[0]][pair[1]] if other < place)


def slow_rank_sum(way, cells):
    return sum(rank(way, (i, j), cells[i][j]) for i, j in pairs_of(way))


def is_shift(way, one, two):
    """True if a change at one pair to a place of the next rank leads from one table to the other."""
    changed = [(i, j) for i, j in pairs_of(way) if one[i][j] != two[i][j]]
    if len(changed) != 1:
        return False
    i, j = changed[0]
    return abs(rank(way, (i, j), one[i][j]) - rank(way, (i, j), two[i][j])) == 1


def slow_shifts(way, cells, plans):
    return [other for other in plans if is_shift(way, cells, other)]


def slow_distances(way, cells, plans):
    """The least numbers of shifts from one plan to all plans, by a search."""
    found = {cells: 0}
    waiting = deque([cells])
    while waiting:
        here = waiting.popleft()
        for other in slow_shifts(way, here, plans):
            if other not in found:
                found[other] = found[here] + 1
                waiting.append(other)
    return found


def next_entries(way, entry):
    """The entries that may follow an entry of a chain."""
    pair, place = entry
    found = []
    for a, b, w in slow_conditions(way):
        if b == pair:
            fitting = [x for x in way.table[a[0]][a[1]] if x >= place + w]
            found.append((a, min(fitting) if fitting else None))
    return found


def first_entries(way):
    return [((i, j), min(way.table[i][j])) for i, j in pairs_of(way)]


def slow_chains(way):
    """All chains of a way."""
    chains = []
    open_chains = [(entry,) for entry in first_entries(way)]
    while open_chains:
        start = open_chains.pop()
        for entry in next_entries(way, start[-1]):
            longer = start + (entry,)
            if entry[1] is None:
                chains.append(longer)
            else:
                open_chains.append(longer)
    return chains


def is_right_form(entry):
    return (
        type(entry) is tuple and len(entry) == 2
        and type(entry[0]) is tuple and len(entry[0]) == 2
        and all(type(number) is int for number in entry[0])
        and (entry[1] is None or type(entry[1]) is int)
    )


def slow_chain_fault(way, chain):
    """The index of the InvalidChain of a tuple of at least two items, or -1 for a chain."""
    for index, entry in enumerate(chain):
        right = first_entries(way) if index == 0 else next_entries(way, chain[index - 1])
        is_last = index == len(chain) - 1
        if not is_right_form(entry) or entry not in right or (entry[1] is None) != is_last:
            return index
    return -1


def slow_least(way):
    """The leftmost table, by raising single places until all conditions hold, or None."""
    places = {(i, j): min(way.table[i][j]) for i, j in pairs_of(way)}
    changed = True
    while changed:
        changed = False
        for a, b, w in slow_conditions(way):
            if places[a] < places[b] + w:
                fitting = [x for x in way.table[a[0]][a[1]] if x >= places[b] + w]
                if not fitting:
                    return None
                places[a] = min(fitting)
                changed = True
    return tuple(tuple(places[(i, j)] for j in range(way.lefts)) for i in range(way.rights))


def slow_greatest(way):
    """The rightmost table, by lowering single places until all conditions hold, or None."""
    places = {(i, j): max(way.table[i][j]) for i, j in pairs_of(way)}
    changed = True
    while changed:
        changed = False
        for a, b, w in slow_conditions(way):
            if places[a] < places[b] + w:
                fitting = [x for x in way.table[b[0]][b[1]] if x + w <= places[a]]
                if not fitting:
                    return None
                places[b] = max(fitting)
                changed = True
    return tuple(tuple(places[(i, j)] for j in range(way.lefts)) for i in range(way.rights))


def random_places(chance, places, share):
    """Some of the places, at least one; a share of ten is kept."""
    kept = [place for place in range(places) if chance.randrange(10) < share]
    return kept or [chance.randrange(places)]


def random_way(chance, rights, lefts, places, share):
    way = Way(rights, lefts, places)
    for i, j in pairs_of(way):
        way = way.allowing(i, j, *random_places(chance, places, share))
    return way


def table_count(way):
    total = 1
    for i, j in pairs_of(way):
        total *= len(way.table[i][j])
    return total


def small_ways(chance, many, limit):
    """Random ways that have at most limit tables of allowed places."""
    found = []
    while len(found) < many:
        size = (chance.randint(1, 3), chance.randint(1, 3), chance.randint(1, 5))
        way = random_way(chance, *size, chance.randint(2, 9))
        if table_count(way) <= limit:
            found.append(way)
    return found


def all_ways(rights, lefts, places):
    """All ways of this size."""
    subsets = [
        [place for place in range(places) if bits >> place & 1]
        for bits in range(1, 2 ** places)
    ]
    full = Way(rights, lefts, places)
    pairs = pairs_of(full)
    for choice in product(subsets, repeat=len(pairs)):
        way = full
        for (i, j), allowed in zip(pairs, choice):
            way = way.allowing(i, j, *allowed)
        yield way
