"""Helpers: knots of nodes, dearest ways through nets, and labels in a row."""

import random
import unittest

from namesakes.knots import knots_of
from namesakes.nets import Edge, Net
from namesakes.plays import label_at
from namesakes.records import is_label


def reached(behind):
    """For each node all nodes that can be reached from it, itself too, told plainly."""
    found = [{node} for node in range(len(behind))]
    changed = True
    while changed:
        changed = False
        for node, ways in enumerate(behind):
            more = found[node].union(*[found[further] for further in ways])
            changed = changed or more != found[node]
            found[node] = more
    return found


def chance_graph(rng):
    many = rng.randint(1, 9)
    behind = [[] for _ in range(many)]
    for _ in range(rng.randint(0, 2 * many)):
        behind[rng.randrange(many)].append(rng.randrange(many))
    return behind


class KnotsTest(unittest.TestCase):
    def test_by_hand(self):
        self.assertEqual(knots_of([]), [])
        self.assertEqual(knots_of([[]]), [0])
        self.assertEqual(knots_of([[1], [0], []])[:2], [0, 0])
        self.assertEqual(knots_of([[1], [2], []]), [2, 1, 0])

    def test_by_chance(self):
        rng = random.Random(61)
        for _ in range(400):
            behind = chance_graph(rng)
            knots, found = knots_of(behind), reached(behind)
            self.assertEqual(sorted(set(knots)), list(range(len(set(knots)))))
            for node in range(len(behind)):
                for other in range(len(behind)):
                    self.assertEqual(knots[node] == knots[other], other in found[node] and node in found[other])
                self.assertTrue(all(knots[further] <= knots[node] for further in behind[node]))

    def test_many_nodes_in_a_row(self):
        many = 5000
        self.assertEqual(knots_of([[node + 1] for node in range(many - 1)] + [[]]), list(range(many))[::-1])
        self.assertEqual(knots_of([[(node + 1) % many] for node in range(many)]), [0] * many)


class WaysTest(unittest.TestCase):
    """Nets of which only edges and knots are known."""

    def net_of(self, behind, counted):
        net = Net.__new__(Net)
        net.knots = knots_of(behind)
        net.edges = [[Edge((node, further), further, (node, further) in counted and net.knots[node] != net.knots[further]) for further in ways]
                     for node, ways in enumerate(behind)]
        return net

    def prices(self, net):
        """The prices, told plainly."""
        prices = [0] * len(net.edges)
        for _ in range(len(prices) ** 2):
            prices = [max([prices[edge.behind] + edge.counts for edge in edges], default=0) for edges in net.edges]
        return prices

    def test_by_chance(self):
        rng = random.Random(62)
        long_ways = 0
        for _ in range(400):
            behind = chance_graph(rng)
            edges = [(node, further) for node, ways in enumerate(behind) for further in ways]
            net = self.net_of(behind, [edge for edge in edges if rng.random() < 0.5])
            self.assertIsNone(net.endless_edge())
            prices = net.all_prices()
            again = self.prices(net)
            self.assertEqual(prices, [max(again[node], *[again[further] for further in reached(behind)[node]]) for node in range(len(behind))])
            for first in range(len(behind)):
                way = net.dearest_way(first, prices)
                node = first
                for edge in way:
                    self.assertIn(edge, net.edges[node])
                    node = edge.behind
                self.assertEqual(sum(edge.counts for edge in way), prices[first])
                long_ways += len(way) > 1 + prices[first]
        self.assertGreater(long_ways, 50)

    def test_ways_within_a_knot(self):
        net = self.net_of([[1, 3], [2], [0, 1], [3]], [])
        self.assertEqual([[edge.deed for edge in net.way_within(0, {node: True})[0]] for node in (0, 1, 2)], [[], [(0, 1)], [(0, 1), (1, 2)]])
        self.assertEqual(net.way_within(0, {1: None, 2: True})[1], 2)

    def test_endless_edges(self):
        net = self.net_of([[1], [0, 2], [2]], [])
        net.edges[1][1].counts = True
        self.assertIsNone(net.endless_edge())
        net.edges[1][0].counts = True
        self.assertEqual(net.endless_edge(), (1, net.edges[1][0]))


class LabelsTest(unittest.TestCase):
    def test_labels_in_a_row(self):
        self.assertEqual([label_at(number) for number in (0, 1, 25, 26, 27, 51, 52, 701, 702, 703)], ["a", "b", "z", "aa", "ab", "az", "ba", "zz", "aaa", "aab"])
        labels = [label_at(number) for number in range(20000)]
        self.assertEqual(len(set(labels)), 20000)
        self.assertTrue(all(is_label(label) for label in labels))
