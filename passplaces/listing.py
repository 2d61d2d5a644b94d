"""Lists of all plans of a way that has not too many."""

from passplaces.checks import is_number
from passplaces.errors import InvalidNumber, LimitExceeded
from passplaces.plans import Plan, has_plan, least_cells

MAX_LISTED = 500


def plans(way):
    """Yield all plans of a way in the order of their numbers."""
    for cells in tables_of(way):
        yield Plan(way, cells)


def count_plans(way):
    """Return the number of plans of a way."""
    return len(tables_of(way))


def plan_by_rank(way, rank):
    """Return the plan with this number."""
    tables = tables_of(way)
    if not is_number(rank, 0, len(tables) - 1):
        raise InvalidNumber(rank)
    return Plan(way, tables[rank])


def rank_of(plan):
    """Return the number of a plan among the plans of its way."""
    return tables_of(plan.way).index(plan.cells)


def tables_of(way):
    """Return the ascending list of the tables of all plans; raise LimitExceeded if there are too many."""
    if not has_plan(way):
        return []
    least = least_cells(way)
    tables = [()]
    # Every table that has been begun can be completed by the least rows, so
    # there are at least as many plans as tables that have been begun.
    for right in range(way.rights):
        longer = []
        for table in tables:
            for row in next_rows(way, least, table):
                longer.append(table + (row,))
            check_listed(longer)
        tables = longer
    return tables


def next_rows(way, least, table):
    """Return the ascending list of the rows that can come next in a table that has been begun.

    The rows grow from their last places on: so each place is bounded by the
    places above it, and has at least the one of the leftmost plan to choose.
    """
    right = len(table)
    rows = [()]
    for left in reversed(range(way.lefts)):
        longer = []
        for row in rows:
            highest = highest_place(way, table, row, left)
            for place in way.allowed(right, left):
                if least[right][left] <= place <= highest:
                    longer.append((place,) + row)
        check_listed(longer)
        rows = longer
    return sorted(rows)


def highest_place(way, table, row, left):
    """Return the greatest place that the conditions let a pair have.

    `row` has the places of the later left walkers, and `table` the rows of the
    right walkers before.
    """
    highest = way.places - 1
    if len(row) > 0:
        highest = row[0]
    if len(table) > 0:
        highest = min(highest, table[-1][left])
    if len(table) > 0 and len(row) > 0:
        highest = min(highest, table[-1][left + 1] - 1)
    return highest


def check_listed(found):
    """Raise LimitExceeded if a list is longer than a list of plans can be."""
    if len(found) > MAX_LISTED:
        raise LimitExceeded(MAX_LISTED)
