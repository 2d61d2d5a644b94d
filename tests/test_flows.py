"""Module passplaces.flows: the greatest flow and the least cut of small networks."""

import random
from itertools import product

from passplaces.flows import Network
from tests.helpers import Case


def least_cut(nodes, arcs):
    """The least sum of the limits from a side with node 0 to one with node 1, by trying all sides."""
    found = []
    for bits in product([True, False], repeat=nodes - 2):
        near = (True, False) + bits
        found.append(sum(
            (limit if near[tail] and not near[head] else 0) + (back if near[head] and not near[tail] else 0)
            for tail, head, limit, back in arcs
        ))
    return min(found)


class NetworkTest(Case):
    def drawn(self, chance):
        nodes = chance.randint(2, 8)
        arcs = []
        for _ in range(chance.randint(0, 20)):
            tail, head = chance.sample(range(nodes), 2)
            arcs.append((tail, head, chance.randint(0, 9), chance.choice([0, 0, 0, chance.randint(0, 9)])))
        return nodes, arcs

    def test_drawn_networks(self):
        chance = random.Random(141)
        for _ in range(400):
            nodes, arcs = self.drawn(chance)
            network = Network(nodes)
            numbers = [network.connect(*arc) for arc in arcs]
            network.fill(0, 1)
            near = [distance is not None for distance in network.distances(0)]
            self.assertTrue(near[0])
            self.assertFalse(near[1])
            cut = sum(
                (limit if near[tail] and not near[head] else 0) + (back if near[head] and not near[tail] else 0)
                for tail, head, limit, back in arcs
            )
            self.assertEqual(cut, least_cut(nodes, arcs))
            if all(back == 0 for _, _, _, back in arcs):
                self.check_flow(nodes, arcs, [network.carried(arc) for arc in numbers], cut)

    def check_flow(self, nodes, arcs, carried, cut):
        """What flows into a node flows out of it, except at both ends."""
        gains = [0] * nodes
        for (tail, head, limit, _), flow in zip(arcs, carried):
            self.assertTrue(0 <= flow <= limit)
            gains[tail] -= flow
            gains[head] += flow
        self.assertEqual(gains, [-cut, cut] + [0] * (nodes - 2))

    def test_distances(self):
        network = Network(5)
        for tail, head in [(0, 2), (2, 3), (3, 1), (0, 3)]:
            network.connect(tail, head, 1, 0)
        self.assertEqual(network.distances(0), [0, 2, 1, 1, None])

    def test_a_second_filling_changes_nothing(self):
        network = Network(3)
        arc = network.connect(0, 2, 5, 0)
        network.connect(2, 1, 3, 0)
        for _ in range(2):
            network.fill(0, 1)
            self.assertEqual(network.carried(arc), 3)
