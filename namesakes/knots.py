"""Knots: nodes from each of which all others of the knot can be reached."""


class Search:
    """A search through all nodes, without recursion; it changes as it goes on."""

    def __init__(self, behind):
        self.behind = behind
        # By nodes: when each was met, the earliest one on the way that can be
        # reached from it so far, and its knot.
        self.met = [None] * len(behind)
        self.lowest = [None] * len(behind)
        self.knots = [None] * len(behind)
        self.open_nodes = []
        self.times = 0
        self.many = 0

    def meet(self, node):
        self.met[node] = self.times
        self.lowest[node] = self.times
        self.times += 1
        self.open_nodes.append(node)

    def go_from(self, first):
        """Go through all nodes that can be reached from this one and were not met so far."""
        self.meet(first)
        # Pairs of a node and how many of the nodes behind it were looked at.
        waiting = [(first, 0)]
        while waiting:
            node, looked = waiting.pop()
            if looked < len(self.behind[node]):
                waiting.append((node, looked + 1))
                further = self.behind[node][looked]
                if self.met[further] is None:
                    self.meet(further)
                    waiting.append((further, 0))
                elif self.knots[further] is None:
                    self.lowest[node] = min(self.lowest[node], self.met[further])
            else:
                self.leave(node)
                if waiting:
                    above = waiting[-1][0]
                    self.lowest[above] = min(self.lowest[above], self.lowest[node])

    def leave(self, node):
        """All that is behind this node is known; tie its knot if it is the first of it."""
        if self.lowest[node] < self.met[node]:
            return
        last = None
        while last != node:
            last = self.open_nodes.pop()
            self.knots[last] = self.many
        self.many += 1


def knots_of(behind):
    """For each node the number of its knot; entry n of `behind` has the nodes behind node n.

    Nodes behind a node are of its own knot or of one with a lower number.
    """
    search = Search(behind)
    for node in range(len(behind)):
        if search.met[node] is None:
            search.go_from(node)
    return search.knots
