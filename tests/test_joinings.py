"""Joinings [4.8] to [4.11]."""

import itertools
import random
from math import comb, factorial

from namesakes.allpatterns import all_patterns, how_many_patterns, pattern_at
from namesakes.errors import BadClass, BadIndex, BadJoining, BadMatch, BadNames
from namesakes.joinings import (
    Joining, all_joined, all_joinings, apart_joining, how_many_joined, how_many_joinings, joining_at, joining_index,
    joining_of, joining_of_names,
)
from namesakes.patterns import Pattern
from tests.checks import Checks
from tests.families import ODD_THINGS, AlwaysEqual
from tests.test_patterns import NO_LISTS, NO_NAMES

ONE, OTHER = Pattern((0, 1, 0, None)), Pattern((0, None, 1, 2))
WIDE = Pattern(tuple(range(40)))
SMALL = [pattern for size in range(4) for pattern in all_patterns(size, nobody=True)]


def first(generator):
    return next(iter(generator))


class JoiningTest(Checks):
    def test_attributes(self):
        joining = Joining(ONE, OTHER, [None, 1, None])
        self.assertEqual((joining.one, joining.other, joining.links), (ONE, OTHER, (None, 1, None)))
        self.assertEqual(joining.joined, Pattern((0, 1, 0, None, 2, None, 1, 3)))
        self.assertEqual([joining.number_in(number) for number in range(3)], [2, 1, 3])
        self.assertEqual((joining.link_count, Joining(ONE, OTHER, (1, 0, None)).link_count), (1, 2))
        self.assertEqual(Joining(ONE, OTHER, (0, None, None)).link_count, 1)
        for thing in ODD_THINGS + (-1, 3):
            self.refused(BadClass, (thing,), joining.number_in, thing)

    def test_turned(self):
        joining = Joining(ONE, OTHER, [None, 1, 0])
        self.assertEqual(joining.turned(), Joining(OTHER, ONE, (2, 1)))
        self.assertEqual(Joining(ONE, OTHER, [None] * 3).turned(), Joining(OTHER, ONE, (None, None)))

    def test_wrong_ones(self):
        for thing in ODD_THINGS + ((0, 1, 0, None), Pattern):
            self.refused(BadJoining, (0, "one"), Joining, thing, None, None)
            self.refused(BadJoining, (0, "other"), Joining, WIDE, thing, None)
        self.refused(BadJoining, (0, "places"), Joining, WIDE, Pattern((0,)), None)
        self.assertEqual(len(Joining(WIDE, Pattern(()), ()).joined), 40)
        for links in NO_LISTS + ([None] * 2, [None] * 4, (), "abc"):
            self.refused(BadJoining, (0, "links"), Joining, ONE, OTHER, links)
        for thing in (True, False, -1, 2, "0", 0.0, [], AlwaysEqual()):
            self.refused(BadJoining, (1, "link"), Joining, ONE, OTHER, [0, thing, 0])
            self.refused(BadJoining, (0, "link"), Joining, ONE, OTHER, [thing, 5, 5])
        self.refused(BadJoining, (2, "double"), Joining, ONE, OTHER, [0, None, 0])
        self.refused(BadJoining, (1, "double"), Joining, ONE, OTHER, [1, 1, 7])

    def test_nothing_is_kept(self):
        links = [None, 1, None]
        joining = Joining(ONE, OTHER, links)
        links[0] = 0
        self.assertEqual(joining.links, (None, 1, None))

    def test_equality(self):
        joining = Joining(ONE, OTHER, [None, 1, None])
        self.assertEqual(joining, Joining(ONE, OTHER, (None, 1, None)))
        self.unlike_all(joining, Joining(ONE, OTHER, (None, 0, None)), Joining(Pattern((0, 1)), OTHER, (None, 1, None)),
                        Joining(ONE, Pattern((0, 1, 2)), (None, 1, None)), joining.joined, (None, 1, None))

    def test_all_in_order(self):
        for one, other in itertools.product(SMALL, repeat=2):
            rows = itertools.product([None, *range(one.class_count)], repeat=other.class_count)
            wanted = [row for row in rows if len({link for link in row if link is not None}) == len(row) - row.count(None)]
            self.assertEqual([joining.links for joining in all_joinings(one, other)], wanted)
            self.assertEqual(how_many_joinings(one, other), len(wanted))
            self.assertEqual(apart_joining(one, other).links, wanted[0])

    def test_numbers_there_and_back(self):
        for one, other in itertools.product(SMALL, repeat=2):
            for index, joining in enumerate(all_joinings(one, other)):
                self.assertEqual(joining_index(joining), index)
                self.assertEqual(joining_at(one, other, index), joining)
                self.assertEqual(joining.turned().turned(), joining)
                self.assertEqual(joining_of(one, other, joining.joined), joining)

    def test_joinings_are_the_patterns_that_show_both(self):
        for one, other in itertools.product([pattern for pattern in SMALL if len(pattern) < 3], repeat=2):
            places = list(range(len(one) + len(other)))
            wanted = [pattern for pattern in all_patterns(len(places), nobody=True)
                      if pattern.at_places(places[:len(one)]) == one and pattern.at_places(places[len(one):]) == other]
            found = [joining.joined for joining in all_joinings(one, other)]
            self.assertEqual(len(found), len(wanted))
            self.assertTrue(all(pattern in found for pattern in wanted))

    def test_numbers_far_out(self):
        one, other = Pattern(tuple(range(20))), Pattern(tuple(range(20)))
        many = how_many_joinings(one, other)
        self.assertEqual(many, sum(comb(20, k) ** 2 * factorial(k) for k in range(21)))
        steps = [*range(0, many, many // 89), many - 1]
        found = [joining_at(one, other, index) for index in steps]
        self.assertEqual([joining_index(joining) for joining in found], steps)
        orders = [[-1 if link is None else link for link in joining.links] for joining in found]
        self.assertEqual(orders, sorted(orders))
        self.assertEqual(found[-1].links, tuple(reversed(range(20))))
        self.assertEqual(first(all_joinings(one, other)).links, (None,) * 20)

    def test_wrong_indices(self):
        for thing in ODD_THINGS + (-1, how_many_joinings(ONE, OTHER)):
            self.refused(BadIndex, (thing,), joining_at, ONE, OTHER, thing)
        self.assertEqual(how_many_joinings(ONE, OTHER), 13)

    def test_beyond_forty_places(self):
        other = Pattern((0, 1))
        self.assertEqual(how_many_joinings(WIDE, other), 1 + 80 + 40 * 39)
        self.assertEqual(how_many_joinings(WIDE, WIDE), sum(comb(40, k) ** 2 * factorial(k) for k in range(41)))
        self.assertEqual(how_many_joinings(WIDE, Pattern((None,) * 40)), 1)
        self.refused(BadJoining, (0, "places"), lambda: first(all_joinings(WIDE, other)))
        self.refused(BadJoining, (0, "places"), apart_joining, WIDE, other)
        self.refused(BadJoining, (0, "places"), joining_at, WIDE, other, 1640)
        self.refused(BadIndex, (1641,), joining_at, WIDE, other, 1641)
        self.refused(BadIndex, (True,), joining_at, WIDE, other, True)
        self.refused(BadMatch, ("places",), joining_of, WIDE, other, WIDE)
        self.refused(BadJoining, (0, "places"), joining_of_names, list(range(40)), [1])

    def test_joining_of(self):
        self.assertEqual(joining_of(ONE, OTHER, Pattern((0, 1, 0, None, 2, None, 1, 3))).links, (None, 1, None))
        self.refused(BadMatch, ("places",), joining_of, ONE, OTHER, ONE)
        self.refused(BadMatch, ("places",), joining_of, ONE, OTHER, Pattern((0, 0, 0, 0, 0, 0, 0, 0, 0)))
        for entries in ((0, 1, 1, None, 0, None, 0, 0), (0, 1, 0, 1, 2, None, 1, 3), (None, 0, None, None, 0, None, 0, 0)):
            self.refused(BadMatch, ("one",), joining_of, ONE, OTHER, Pattern(entries))
        for entries in ((0, 1, 0, None, 2, None, 2, 3), (0, 1, 0, None, 2, 1, 1, 3), (0, 1, 0, None, None, None, 1, 2)):
            self.refused(BadMatch, ("other",), joining_of, ONE, OTHER, Pattern(entries))

    def test_joining_of_names(self):
        joining = joining_of_names([5, 6, 5, None], (7, None, 6, 8))
        self.assertEqual(joining, Joining(ONE, OTHER, (None, 1, None)))
        self.assertEqual(joining_of_names([], ()), Joining(Pattern(()), Pattern(()), ()))
        self.assertEqual(joining_of_names([0] * 20, [0] * 20).links, (0,))
        for names in NO_LISTS + ([1] * 41,):
            self.refused(BadNames, (0, "names"), joining_of_names, names, None)
            self.refused(BadNames, (0, "names"), joining_of_names, [1] * 40, names)
        for thing in NO_NAMES:
            self.refused(BadNames, (1, "name"), joining_of_names, [None, thing], None)
            self.refused(BadNames, (1, "name"), joining_of_names, [1] * 40, [None, thing])
        self.refused(BadJoining, (0, "places"), joining_of_names, [1] * 40, [None])

    def test_all_small_rows_show_one_joining(self):
        rows = [row for size in range(4) for row in itertools.product((None, 4, 5), repeat=size)]
        for one, other in itertools.product(rows, repeat=2):
            joining = joining_of_names(one, other)
            self.assertEqual(joining.joined, Pattern.of_names(one + other))
            self.assertEqual((joining.one, joining.other), (Pattern.of_names(one), Pattern.of_names(other)))


class JoinedTest(Checks):
    def test_of_few(self):
        self.assertEqual(list(all_joined([])), [Pattern(())])
        self.assertEqual(list(all_joined(())), [Pattern(())])
        self.assertEqual(list(all_joined([ONE])), [ONE])
        self.assertEqual(list(all_joined((ONE, OTHER))), [joining.joined for joining in all_joinings(ONE, OTHER)])
        self.assertEqual(list(all_joined([Pattern(())] * 3)), [Pattern(())])

    def test_of_three_in_order(self):
        patterns = [Pattern((0, 1)), Pattern((0, None)), Pattern((0, 1))]
        wanted = [joining.joined for pattern in all_joined(patterns[:2]) for joining in all_joinings(pattern, patterns[2])]
        self.assertEqual(list(all_joined(patterns)), wanted)
        self.assertEqual(how_many_joined(patterns), len(wanted))

    def test_patterns_without_places_among_them(self):
        patterns = [Pattern(()), ONE, Pattern(()), OTHER, Pattern(())]
        self.assertEqual(list(all_joined(patterns)), list(all_joined([ONE, OTHER])))
        self.assertEqual(first(all_joined([Pattern(())] * 3000)), Pattern(()))

    def test_forty_patterns_of_one_place(self):
        patterns = [Pattern((0,))] * 40
        self.assertEqual(first(all_joined(patterns)), Pattern(tuple(range(40))))
        self.assertEqual(how_many_joined(patterns), how_many_patterns(40))
        five = list(all_joined(patterns[:5]))
        self.assertEqual(len(five), 52)
        self.assertTrue(all(pattern in five for pattern in all_patterns(5)))

    def test_counts_in_any_order(self):
        rng = random.Random(15)
        for _ in range(30):
            patterns = [pattern_at(size, rng.randrange(how_many_patterns(size, nobody=True)), nobody=True)
                        for size in [rng.randint(0, 3) for _ in range(rng.randint(0, 3))]]
            many = how_many_joined(patterns)
            self.assertEqual(many, len(list(all_joined(patterns))))
            rng.shuffle(patterns)
            self.assertEqual(how_many_joined(tuple(patterns)), many)

    def test_many_and_wide_ones(self):
        self.assertEqual(how_many_joined([]), 1)
        self.assertEqual(how_many_joined([WIDE, WIDE]), how_many_joinings(WIDE, WIDE))
        self.assertEqual(how_many_joined([Pattern((None,) * 40)] * 100), 1)
        patterns = [Pattern(tuple(range(number % 7))) for number in range(100)]
        many = how_many_joined(patterns)
        self.assertEqual(how_many_joined(sorted(patterns, key=len)), many)
        self.assertEqual(how_many_joined(sorted(patterns, key=len, reverse=True)), many)
        # One hundred patterns of one class: all partitions of one hundred things.
        self.assertEqual(str(how_many_joined([Pattern((0,))] * 100))[:10], "4758539127")
