"""Orders in which the pairs of a way can pass: their number, and the order with a number."""

from passplaces.checks import is_number
from passplaces.crossings import check_order, ready_rights
from passplaces.errors import InvalidNumber
from passplaces.ways import pairs_of


def count_orders(way):
    """Return the number of orders of a way."""
    return count_endings(way, [0] * way.rights)


def order_by_rank(way, rank):
    """Return the order with this number."""
    if not is_number(rank, 0, count_orders(way) - 1):
        raise InvalidNumber(rank)
    return order_at(way, rank)


def rank_of_order(way, order):
    """Return the number of an order."""
    check_order(way, order)
    rank = 0
    done = [0] * way.rights
    for right, _ in order:
        for lesser in ready_rights(way, done):
            if lesser < right:
                rank += count_endings(way, one_more(done, lesser))
        done[right] += 1
    return rank


def orders(way, *, start=0):
    """Yield all orders from the number start on, ascending."""
    total = count_orders(way)
    if not is_number(start, 0, total):
        raise InvalidNumber(start)
    order = None
    if start < total:
        order = order_at(way, start)
    while order is not None:
        yield order
        order = following(way, order)


def count_endings(way, done):
    """Return the number of ways to complete an order that has been begun.

    `done` has the number of pairs of each right walker that have come already.
    The pairs that are left form the same kind of figure as all pairs, so the
    same formula holds: the divisor of a pair counts the pairs that are left
    before it in its row and in its column, and itself.
    """
    size = 0
    upper = 1
    lower = 1
    for right, left in pairs_of(way):
        if left >= done[right]:
            size += 1
            upper = upper * size
            column = [other for other in range(right) if done[other] <= left]
            lower = lower * (left - done[right] + len(column) + 1)
    return upper // lower


def order_at(way, rank):
    """Return the order with a number that is right."""
    found = []
    done = [0] * way.rights
    rest = rank
    while len(found) < len(way):
        right, rest = right_at(way, done, rest)
        found.append((right, done[right]))
        done[right] += 1
    return tuple(found)


def right_at(way, done, rank):
    """Return the right walker of the first pair of the ending with this number, and the rest of the number.

    The rest is the number of the ending among those that begin with this pair.
    """
    rest = rank
    for right in ready_rights(way, done):
        many = count_endings(way, one_more(done, right))
        if rest < many:
            break
        rest -= many
    return right, rest


def one_more(done, right):
    """Return the numbers after one more pair of a right walker."""
    return done[:right] + [done[right] + 1] + done[right + 1:]


def following(way, order):
    """Return the next greater order, or None behind the last one."""
    done = [way.lefts] * way.rights
    for index in reversed(range(len(order))):
        right = order[index][0]
        done[right] -= 1
        greater = [other for other in ready_rights(way, done) if other > right]
        if len(greater) > 0:
            done[greater[0]] += 1
            begun = order[:index] + ((greater[0], done[greater[0]] - 1),)
            return begun + least_ending(way, done)
    return None


def least_ending(way, done):
    """Return the first of all endings of an order that has been begun."""
    return tuple([(right, left) for right, left in pairs_of(way) if left >= done[right]])
