"""Greatest flows from one node of a network to another one."""


class Network:
    """Nodes with the numbers from 0 on, and arcs between them that carry a flow.

    Beside every arc lies its opposite one, whose number differs in the last
    bit. What flows over the one can flow back over the other.
    """

    def __init__(self, nodes):
        self._leaving = [[] for _ in range(nodes)]
        self._heads = []
        self._rests = []

    def connect(self, tail, head, limit, back):
        """Add an arc and its opposite one with their limits, and return the number of the arc."""
        arc = len(self._heads)
        self._leaving[tail].append(arc)
        self._leaving[head].append(arc ^ 1)
        self._heads.extend([head, tail])
        self._rests.extend([limit, back])
        return arc

    def carried(self, arc):
        """Return what flows over an arc whose opposite one has the limit 0."""
        return self._rests[arc ^ 1]

    def fill(self, source, sink):
        """Send as much as possible from the source to the sink."""
        distances = self.distances(source)
        while distances[sink] is not None:
            self._fill_shortest(source, sink, distances)
            distances = self.distances(source)

    def distances(self, source):
        """Return a list of the numbers of arcs from the source to each node, or None where no more can flow."""
        found = [None] * len(self._leaving)
        found[source] = 0
        queue = [source]
        index = 0
        while index < len(queue):
            node = queue[index]
            for arc in self._leaving[node]:
                head = self._heads[arc]
                if self._rests[arc] > 0 and found[head] is None:
                    found[head] = found[node] + 1
                    queue.append(head)
            index += 1
        return found

    def _fill_shortest(self, source, sink, distances):
        """Send as much as possible over paths that follow the distances."""
        # An arc that has led nowhere once is not tried again.
        turns = [0] * len(self._leaving)
        path = []
        node = source
        while node != source or turns[source] < len(self._leaving[source]):
            if node == sink:
                self._send(path)
                path = []
                node = source
            elif turns[node] == len(self._leaving[node]):
                node = self._heads[path.pop() ^ 1]
                turns[node] += 1
            else:
                arc = self._leaving[node][turns[node]]
                head = self._heads[arc]
                if self._rests[arc] > 0 and distances[head] == distances[node] + 1:
                    path.append(arc)
                    node = head
                else:
                    turns[node] += 1

    def _send(self, path):
        """Send as much as possible over one path."""
        amount = min([self._rests[arc] for arc in path])
        for arc in path:
            self._rests[arc] -= amount
            self._rests[arc ^ 1] += amount
