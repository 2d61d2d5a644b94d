"""The whole program: the same answers for the same way, whichever module is asked."""

import random

from passplaces.console import Console
from passplaces.costs import bound_by, cheapest_plan, check_cheapest, cost_of
from passplaces.crossings import LoggedCrossing, check_order, steps
from passplaces.errors import NoPlan
from passplaces.listing import count_plans, plan_by_rank, plans, rank_of
from passplaces.live import Guide, LiveWay
from passplaces.orders import count_orders, order_by_rank, orders, rank_of_order
from passplaces.plans import Plan, chain_of, check_chain, has_plan
from passplaces.texts import read_way, way_text
from passplaces.ways import Way, conditions
from tests.helpers import Case
from tests.slow import bound_table, pairs_of, random_way, slow_least, slow_plans, small_ways
from tests.slow_costs import random_costs, slow_cost
from tests.slow_live import SlowLive, performed, random_change
from tests.slow_walks import slow_orders


def drawn_ways(seed, many):
    """Small ways that have not too many plans to list."""
    found = []
    for way in small_ways(random.Random(seed), 2 * many, 1500):
        if len(slow_plans(way)) <= 500 and len(found) < many:
            found.append(way)
    return found


def joined(cells):
    return " ".join(str(x) for row in cells for x in row)


def console_of(way):
    """A console that holds a live way with this current way."""
    console = Console()
    assert console.run("new {} {} {}".format(way.rights, way.lefts, way.places)) == "ok"
    for i, j in pairs_of(way):
        places = " ".join(map(str, way.allowed(i, j)))
        assert console.run("allow {} {} {}".format(i, j, places)) == "ok"
    return console


def live_of(kind, way):
    live = kind(Way(way.rights, way.lefts, way.places))
    for i, j in pairs_of(way):
        live.allow(i, j, *way.allowed(i, j))
    return live


def turned(way, cells):
    """A table seen from the other side."""
    return tuple(
        tuple(way.places - 1 - cells[i][j] for i in range(way.rights)) for j in range(way.lefts)
    )


class OneListTest(Case):
    """All modules against one list of all plans and one list of all orders."""

    def test_plans(self):
        chance = random.Random(111)
        for way in drawn_ways(112, 150):
            tables = slow_plans(way)
            self.check_number(way, tables)
            if tables:
                self.check_extremes(way, tables)
                self.check_costs(chance, way, tables)
            else:
                self.check_no_plan(way)

    def check_number(self, way, tables):
        self.assertIs(has_plan(way), len(tables) > 0)
        self.assertEqual(count_plans(way), len(tables))
        self.assertEqual([plan.cells for plan in plans(way)], tables)
        self.assertIs(LiveWay(way).is_passable, len(tables) > 0)
        self.assertIs(live_of(LiveWay, way).is_passable, len(tables) > 0)
        console = console_of(way)
        self.assertEqual(console.run("count"), str(len(tables)))
        self.assertEqual(console.run("decide"), "plan" if tables else "chain")

    def check_extremes(self, way, tables):
        least, greatest = bound_table(way, tables, min), bound_table(way, tables, max)
        self.assertEqual(Plan.leftmost(way).cells, least)
        self.assertEqual(Plan.rightmost(way).cells, greatest)
        self.assertEqual(Guide(way).course, Plan(way, least))
        self.assertEqual(LiveWay(way).without(), Plan(way, least))
        self.assertEqual(plan_by_rank(way, 0).cells, least)
        self.assertEqual(rank_of(Plan.rightmost(way)), len(tables) - 1)
        console = console_of(way)
        self.assertEqual((console.run("left"), console.run("right")), (joined(least), joined(greatest)))
        self.assertIn(live_of(Guide, way).course.cells, tables)

    def check_costs(self, chance, way, tables):
        costs = random_costs(chance, way)
        listed = [cost_of(plan, costs) for plan in plans(way)]
        self.assertEqual(listed, [slow_cost(way, cells, costs) for cells in tables])
        cost, plan, weights = cheapest_plan(way, costs)
        self.assertEqual((cost, bound_by(way, costs, weights)), (min(listed), min(listed)))
        self.assertEqual(cost, listed[rank_of(plan)])
        self.assertEqual(check_cheapest(way, costs, (cost, plan_by_rank(way, rank_of(plan)), weights)), cost)

    def check_no_plan(self, way):
        self.assertIsNone(check_chain(way, chain_of(way)))
        costs = random_costs(random.Random(0), way)
        calls = [
            lambda: Plan.leftmost(way), lambda: Plan.rightmost(way), lambda: cheapest_plan(way, costs),
            lambda: check_cheapest(way, costs, None),
        ]
        for call in calls:
            self.assertIsNone(check_chain(way, self.failure(NoPlan, call).chain))
        self.assertIsNone(Guide(way).course)
        self.assertIsNone(LiveWay(way).without())
        self.assertEqual(console_of(way).run("left"), "no plan")

    def test_orders(self):
        for way in [Way(1, 1, 2), Way(2, 3, 2), Way(3, 2, 4), Way(3, 3, 3), Way(1, 5, 2), Way(2, 4, 2)]:
            listed = slow_orders(way)
            self.assertEqual(list(orders(way)), listed)
            self.assertEqual(count_orders(way), len(listed))
            self.assertEqual(console_of(way).run("orders"), str(len(listed)))
            for rank in {0, len(listed) // 2, len(listed) - 1}:
                self.assertEqual(order_by_rank(way, rank), listed[rank])
                self.assertEqual(rank_of_order(way, listed[rank]), rank)
                self.assertIsNone(check_order(way, listed[rank]))

    def test_found_plans_can_be_walked_in_every_order(self):
        chance = random.Random(113)
        for way in drawn_ways(114, 60) + [Way(6, 6, 12), Way(6, 6, 6)]:
            if not has_plan(way):
                continue
            cheapest = cheapest_plan(way, random_costs(chance, way))[1]
            for plan in [cheapest, Guide(way).course, live_of(Guide, way).course, Plan.rightmost(way)]:
                order = order_by_rank(way, chance.randrange(count_orders(way)))
                crossing = LoggedCrossing(way)
                crossing.run(*steps(plan, order=order))
                self.assertIs(crossing.is_over, True)
                self.assertEqual(crossing.plan(), plan)
                self.assertEqual([step[1:] for step in crossing.log if step[0] == "meet"], list(order))

    def test_read_ways_give_the_same_answers(self):
        chance = random.Random(115)
        for way in drawn_ways(116, 80):
            found = read_way(way_text(way))
            self.assertEqual(list(conditions(found)), list(conditions(way)))
            self.assertEqual(chain_of(found), chain_of(way))
            self.assertEqual(list(plans(found)), list(plans(way)))
            self.assertEqual(Guide(found), Guide(way))
            if has_plan(way):
                costs = random_costs(chance, way)
                self.assertEqual(check_cheapest(found, costs, cheapest_plan(way, costs)), cheapest_plan(found, costs)[0])

    def test_live_ways_give_the_same_answers(self):
        # Every way of a log answers like one that was made at once.
        chance = random.Random(117)
        for way in drawn_ways(118, 40):
            live = LiveWay(way)
            for _ in range(6):
                change = random_change(chance, (way.rights, way.lefts, way.places), 5)
                if SlowLive(live.way).change(change) is None:
                    performed(live, change)
            for one in live.ways():
                other = read_way(way_text(one))
                self.assertEqual(one, other)
                self.assertEqual(chain_of(one), chain_of(other))
                self.assertIs(LiveWay(other).is_passable, slow_least(one) is not None)
            self.assertEqual(console_of(live.way).run("decide"), "plan" if live.is_passable else "chain")


class MirroredTest(Case):
    """The same ways seen from the other side."""

    def test_costs(self):
        chance = random.Random(121)
        for way in drawn_ways(122, 80) + [Way(6, 6, 12), random_way(chance, 6, 6, 12, 9)]:
            if not has_plan(way):
                continue
            costs = random_costs(chance, way)
            other = tuple(tuple(costs[i][j][::-1] for i in range(way.rights)) for j in range(way.lefts))
            cost, plan, _ = cheapest_plan(way, costs)
            seen = Plan(way.mirrored(), turned(way, plan.cells))
            self.assertEqual(cost_of(seen, other), cost)
            self.assertEqual(cheapest_plan(way.mirrored(), other)[0], cost)

    def test_lists_and_texts(self):
        for way in drawn_ways(123, 80):
            other = way.mirrored()
            self.assertEqual(count_plans(other), count_plans(way))
            self.assertEqual(count_orders(other), count_orders(way))
            self.assertEqual(read_way(way_text(other)).mirrored(), way)
            one, two = console_of(way), console_of(other)
            for question in ["decide", "count", "orders"]:
                self.assertEqual(one.run(question), two.run(question))
            if has_plan(way):
                self.assertEqual(two.run("left"), joined(turned(way, Plan.rightmost(way).cells)))

    def test_live_ways(self):
        chance = random.Random(124)
        for way in drawn_ways(125, 60):
            one, two = LiveWay(way), LiveWay(way.mirrored())
            for _ in range(8):
                change = random_change(chance, (way.rights, way.lefts, way.places), 4)
                if SlowLive(one.way).change(change) is None:
                    performed(one, change)
                    performed(two, self.turned_change(way, change))
                self.assertEqual(two.way, one.way.mirrored())
                self.assertIs(two.is_passable, one.is_passable)
            while len(one):
                one.undo()
                two.undo()
                self.assertEqual(two.way, one.way.mirrored())

    def turned_change(self, way, change):
        last = way.places - 1
        if change[0] == "close":
            return ("close", tuple(last - x for x in change[1]), change[3], change[2])
        return ("allow", change[2], change[1], tuple(last - x for x in change[3]))


class ClosedTest(Case):
    """The same ways with places closed."""

    def closed_ways(self, seed):
        chance = random.Random(seed)
        for way in drawn_ways(seed + 1, 120):
            i, j = chance.choice(pairs_of(way))
            if len(way.allowed(i, j)) > 1:
                yield way, (i, j), chance.choice(way.allowed(i, j))

    def test_plans(self):
        for way, (i, j), place in self.closed_ways(131):
            closed = way.closing(place, right=i, left=j)
            old, new = list(plans(way)), list(plans(closed))
            self.assertEqual([one.cells for one in new], [one.cells for one in old if one.place(i, j) != place])
            if new:
                self.assertTrue(Plan(way, Plan.leftmost(closed).cells).highest(Plan.leftmost(way)) ==
                                Plan(way, Plan.leftmost(closed).cells))
                self.assertTrue(Plan(way, Plan.rightmost(closed).cells).is_left_of(Plan.rightmost(way)))

    def test_costs(self):
        chance = random.Random(132)
        for way, (i, j), place in self.closed_ways(133):
            closed = way.closing(place, right=i, left=j)
            if has_plan(closed):
                costs = random_costs(chance, way)
                self.assertGreaterEqual(cheapest_plan(closed, costs)[0], cheapest_plan(way, costs)[0])

    def test_live_ways_and_guides(self):
        for way, (i, j), place in self.closed_ways(135):
            closed = way.closing(place, right=i, left=j)
            live, guide = LiveWay(way), Guide(way)
            without = live.without(place, right=i, left=j)
            self.assertEqual(without, Plan.leftmost(closed) if has_plan(closed) else None)
            for one in [live, guide]:
                one.close(place, right=i, left=j)
                self.assertEqual(one.way, closed)
                self.assertEqual(one.is_passable, has_plan(closed))
            # From the leftmost plan on, a guide goes to the leftmost plan of the closed way.
            self.assertEqual(guide.course, without)

    def test_consoles(self):
        chance = random.Random(137)
        for way in drawn_ways(138, 80):
            console, live = console_of(way), live_of(LiveWay, way)
            place = chance.randrange(way.places)
            if SlowLive(way).change(("close", (place,), None, None)) is not None:
                self.assertEqual(console.run("close {}".format(place)), "bad places")
                continue
            answer = console.run("without {}".format(place))
            self.assertEqual(answer, "chain" if live.without(place) is None else "plan")
            self.assertEqual(console.run("close {}".format(place)), "ok")
            self.assertEqual(console.run("decide"), answer)
            self.assertEqual(console.run("count"), str(count_plans(way.closing(place))))
