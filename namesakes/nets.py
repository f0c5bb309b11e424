"""Nets: all that following a name leads to, and how often the name can be given again."""

from namesakes.following import all_follows, gives_again, spoken
from namesakes.knots import knots_of


class Edge:
    """A following step from one node of a net to another, and whether it gives the name again to one who counts."""

    def __init__(self, deed, behind, counts):
        self.deed = deed
        self.behind = behind
        self.counts = counts


def counts_again(custom, kinds, deed, name):
    """Whether the deed is a birth that counts and gives the followed name again."""
    return gives_again(custom, deed, name) and deed[1] in kinds


class Net:
    """The Follows of bearers of some kinds as nodes, each by a number, and the steps between them."""

    def __init__(self, moves, kinds):
        self.moves = moves
        self.nodes = all_follows(moves, kinds)
        self.numbers = {(node.name, node.couple): number for number, node in enumerate(self.nodes)}
        self.edges = [self._edges_of(node, kinds) for node in self.nodes]
        self.knots = knots_of([[edge.behind for edge in edges] for edges in self.edges])

    def _edges_of(self, node, kinds):
        edges = []
        for deed, behind in self.moves.following(node.couple, node.name):
            counts = counts_again(self.moves.custom, kinds, deed, node.name)
            said = spoken(self.moves.custom, deed, node.name)
            edges.append(Edge(said, self.numbers[node.name, behind], counts))
        return edges

    def endless_edge(self):
        """(node, edge) of an edge that counts and can be gone along again and again, or None."""
        for node, edges in enumerate(self.edges):
            for edge in edges:
                if edge.counts and self.knots[node] == self.knots[edge.behind]:
                    return (node, edge)
        return None

    def all_prices(self):
        """For each node how many edges that count can be gone along, if there is no endless one."""
        members = [[] for _ in range(1 + max(self.knots))]
        for node, knot in enumerate(self.knots):
            members[knot].append(node)
        prices = [0] * len(members)
        for knot in range(len(members)):
            for node in members[knot]:
                for edge in self.edges[node]:
                    if self.knots[edge.behind] != knot:
                        prices[knot] = max(prices[knot], _price_along(edge, prices[self.knots[edge.behind]]))
        return [prices[knot] for knot in self.knots]

    def way_within(self, first, wanted):
        """The edges of a shortest way within a knot from the node to one for which wanted[node] is not None."""
        came = {first: None}
        waiting = [first]
        at = 0
        while wanted.get(waiting[at]) is None:
            node = waiting[at]
            at += 1
            for edge in self.edges[node]:
                if edge.behind not in came and self.knots[edge.behind] == self.knots[first]:
                    came[edge.behind] = (node, edge)
                    waiting.append(edge.behind)
        return _way_back(came, waiting[at]), waiting[at]

    def dearest_way(self, first, prices):
        """The edges of a way from the node along which as many count as its price tells."""
        way = []
        node = first
        while prices[node] > 0:
            leaving = {}
            for other, edges in enumerate(self.edges):
                if self.knots[other] == self.knots[node]:
                    leaving[other] = self._leaving_edge(other, edges, prices)
            within, node = self.way_within(node, leaving)
            way.extend(within + [leaving[node]])
            node = leaving[node].behind
        return way

    def _leaving_edge(self, node, edges, prices):
        """An edge that leaves the knot and keeps the price, or None."""
        for edge in edges:
            if self.knots[edge.behind] != self.knots[node] and _price_along(edge, prices[edge.behind]) == prices[node]:
                return edge
        return None


def _price_along(edge, price):
    """The price ahead of the edge, if this is the one behind it."""
    return price + 1 if edge.counts else price


def _way_back(came, last):
    """The edges of the way by which the last node was met."""
    way = []
    while came[last] is not None:
        last, edge = came[last]
        way.append(edge)
    way.reverse()
    return way
