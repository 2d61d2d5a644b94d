"""Costs of plans: the cheapest plan, and weights that show that no plan is cheaper."""

from passplaces.checks import is_int, is_number
from passplaces.errors import InvalidAnswer, InvalidCosts
from passplaces.flows import Network
from passplaces.plans import Plan, check_passable, is_table, least_from
from passplaces.ways import conditions, is_pair, pairs_of

MAX_COST = 1000

SOURCE = 0
SINK = 1


def cost_of(plan, costs):
    """Return the cost of a plan."""
    check_costs(plan.way, costs)
    return sum_of(plan, costs)


def cheapest_plan(way, costs):
    """Return a triple of the least cost, a cheapest plan, and weights whose bound is this cost."""
    check_costs(way, costs)
    check_passable(way)
    nodes = nodes_of(way)
    network = Network(len(nodes) + 2)
    add_costs(network, way, costs, nodes)
    found = add_conditions(network, way, nodes)
    network.fill(SOURCE, SINK)
    plan = Plan(way, reached_cells(network, way, nodes))
    weights = [(a, b, x, network.carried(arc)) for a, b, x, arc in found if network.carried(arc) > 0]
    return (sum_of(plan, costs), plan, tuple(weights))


def bound_by(way, costs, weights):
    """Return the bound of weights."""
    check_costs(way, costs)
    if not is_weights(way, weights):
        raise InvalidAnswer("weights")
    return bound_of(way, costs, weights)


def check_cheapest(way, costs, answer):
    """Return the cost if any value is a cheapest plan with its cost and weights that show it."""
    check_costs(way, costs)
    check_passable(way)
    if not isinstance(answer, tuple) or len(answer) != 3:
        raise InvalidAnswer("form")
    cost, plan, weights = answer
    if not isinstance(plan, Plan) or plan.way != way:
        raise InvalidAnswer("plan")
    least = sum_of(plan, costs)
    if not is_number(cost, least, least):
        raise InvalidAnswer("cost")
    if not is_weights(way, weights):
        raise InvalidAnswer("weights")
    if bound_of(way, costs, weights) != least:
        raise InvalidAnswer("bound")
    return least


def check_costs(way, costs):
    """Raise InvalidCosts if any value is not costs of the way."""
    if not is_table(way, costs):
        raise InvalidCosts(None)
    for right, left in pairs_of(way):
        if not is_row(way, costs[right][left]):
            raise InvalidCosts((right, left))


def is_row(way, value):
    """Return True if any value is a tuple with one cost for each place."""
    if not isinstance(value, tuple) or len(value) != way.places:
        return False
    for cost in value:
        if not is_number(cost, 0, MAX_COST):
            return False
    return True


def sum_of(plan, costs):
    """Return the cost of a plan, for costs that are right."""
    return sum([costs[right][left][plan.place(right, left)] for right, left in pairs_of(plan.way)])


def differences_of(way):
    """Return a dict of the differences of the conditions, by their pairs."""
    return {(a, b): difference for a, b, difference in conditions(way)}


def is_weights(way, value):
    """Return True if any value is weights."""
    if not isinstance(value, tuple):
        return False
    differences = differences_of(way)
    seen = {}
    for item in value:
        if not is_weight(way, differences, item):
            return False
        a, b, place, _ = item
        if (a, b, place) in seen:
            return False
        seen[(a, b, place)] = True
    return True


def is_weight(way, differences, value):
    """Return True if any value is one of the weights, without a look at the others."""
    if not isinstance(value, tuple) or len(value) != 4:
        return False
    a, b, place, amount = value
    if not is_pair(way, a) or not is_pair(way, b) or (a, b) not in differences:
        return False
    if not is_number(place, 0, way.places - 1) or place not in way.allowed(b[0], b[1]):
        return False
    return is_int(amount) and amount > 0


def bound_of(way, costs, weights):
    """Return the bound of weights, for costs and weights that are right."""
    adjusted = {}
    for right, left in pairs_of(way):
        places = way.allowed(right, left)
        adjusted[(right, left)] = {place: costs[right][left][place] for place in places}
    differences = differences_of(way)
    for a, b, place, amount in weights:
        raise_from(adjusted[b], place, amount)
        raise_from(adjusted[a], place + differences[(a, b)], -amount)
    return sum([min(list(adjusted[pair].values())) for pair in pairs_of(way)])


def raise_from(costs, least, amount):
    """Add an amount to the costs of the places from the least one on."""
    for place in list(costs):
        if place >= least:
            costs[place] += amount


# The network has a node for each allowed place y of each pair: the plan's
# place is at least y if and only if the node is on the side of the source. For
# the least place this always holds, so its node is the source itself. Between
# the nodes of neighbouring places flows at most the cost of the lesser one, so
# the least cut has the cost of a cheapest plan. What flows from a pair b to a
# pair a above it are the weights: they even the costs out, so that each pair
# costs at least what it takes from the source.


def nodes_of(way):
    """Return a dict of the nodes of all allowed places of all pairs."""
    nodes = {}
    number = SINK
    for right, left in pairs_of(way):
        places = way.allowed(right, left)
        nodes[((right, left), places[0])] = SOURCE
        for place in places[1:]:
            number += 1
            nodes[((right, left), place)] = number
    return nodes


def add_costs(network, way, costs, nodes):
    """Add the arcs that are cut where the plan has a place, with the cost of the place."""
    for right, left in pairs_of(way):
        places = way.allowed(right, left)
        heads = [nodes[((right, left), place)] for place in places[1:]] + [SINK]
        for place, head in zip(places, heads):
            # The way back has no limit: who is beyond a place is beyond the lesser ones.
            network.connect(nodes[((right, left), place)], head, costs[right][left][place], unlimited(way))


def add_conditions(network, way, nodes):
    """Add the arcs of the conditions, and return a list of tuples (a, b, x, arc) of them.

    If b is not before its place x, then a is not before its first place from
    x + w on. So the arc between both has no limit.
    """
    found = []
    for a, b, difference in conditions(way):
        for place in way.allowed(b[0], b[1]):
            reached = least_from(way.allowed(a[0], a[1]), place + difference)
            head = SINK
            if reached is not None:
                head = nodes[(a, reached)]
            # The source is reached without a condition.
            if head != SOURCE:
                arc = network.connect(nodes[(b, place)], head, unlimited(way), 0)
                found.append((a, b, place, arc))
    return found


def unlimited(way):
    """Return a limit that no flow reaches, because it is more than all plans cost."""
    return len(way) * MAX_COST + 1


def reached_cells(network, way, nodes):
    """Return the table of the greatest places whose nodes the filled network still reaches."""
    distances = network.distances(SOURCE)
    rows = []
    for right in range(way.rights):
        row = []
        for left in range(way.lefts):
            places = way.allowed(right, left)
            row.append([x for x in places if distances[nodes[((right, left), x)]] is not None][-1])
        rows.append(tuple(row))
    return tuple(rows)
