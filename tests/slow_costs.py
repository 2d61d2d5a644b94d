"""Slow and plain versions of point [41], and drawn costs and weights, to compare the program with."""

from tests.slow import is_slow_plan, pairs_of, slow_conditions, slow_least


def slow_cost(way, cells, costs):
    return sum(costs[i][j][cells[i][j]] for i, j in pairs_of(way))


def adjusted_cost(way, costs, weights, c, y):
    """The adjusted cost of the place y for the pair c, word by word."""
    differences = {(a, b): w for a, b, w in slow_conditions(way)}
    added = sum(amount for a, b, x, amount in weights if b == c and x <= y)
    taken = sum(amount for a, b, x, amount in weights if a == c and x + differences[a, b] <= y)
    return costs[c[0]][c[1]][y] + added - taken


def slow_bound(way, costs, weights):
    return sum(
        min(adjusted_cost(way, costs, weights, c, y) for y in way.table[c[0]][c[1]]) for c in pairs_of(way)
    )


def all_weight_keys(way):
    """All triples (a, b, x) that a weight may have."""
    return [(a, b, x) for a, b, _ in slow_conditions(way) for x in way.table[b[0]][b[1]]]


def random_weights(chance, way, share, most):
    """Weights with a share of ten of all triples, in any order."""
    keys = [key for key in all_weight_keys(way) if chance.randrange(10) < share]
    chance.shuffle(keys)
    return tuple(key + (chance.randint(1, most),) for key in keys)


def table_of(way, cost):
    """The costs that a function of i, j and x tells."""
    return tuple(
        tuple(tuple(cost(i, j, x) for x in range(way.places)) for j in range(way.lefts))
        for i in range(way.rights)
    )


def random_costs(chance, way):
    """Costs of one of several kinds."""
    kind = chance.randrange(6)
    wish = {pair: chance.randrange(way.places) for pair in pairs_of(way)}
    kinds = [
        lambda i, j, x: chance.randrange(1001),
        lambda i, j, x: chance.choice([0, 1000]),
        lambda i, j, x: chance.randrange(3),
        lambda i, j, x: 80 * abs(x - wish[i, j]),
        lambda i, j, x: 1000 - 80 * x if (i + j) % 2 else 80 * x,
        lambda i, j, x: chance.choice([0, 1, 999, 1000]) if x % 2 else 500,
    ]
    return table_of(way, kinds[kind])


def is_right_answer(way, costs, answer):
    """True if any triple is a cheapest plan with its cost and weights that show it."""
    cost, plan, weights = answer
    keys = [weight[:3] for weight in weights]
    return (
        type(cost) is int and type(weights) is tuple
        and plan.way == way and is_slow_plan(way, plan.cells)
        and all(plan.cells[i][j] in way.table[i][j] for i, j in pairs_of(way))
        and cost == slow_cost(way, plan.cells, costs)
        and all(type(weight) is tuple and len(weight) == 4 for weight in weights)
        and len(keys) == len(set(keys)) and set(keys) <= set(all_weight_keys(way))
        and all(type(amount) is int and amount > 0 for _, _, _, amount in weights)
        and cost == slow_bound(way, costs, weights)
    )


def with_plans(ways):
    return [way for way in ways if slow_least(way) is not None]


def without_plans(ways):
    return [way for way in ways if slow_least(way) is None]
