"""Patterns [4.1] to [4.5]."""

import itertools

from namesakes.errors import BadClass, BadMatch, BadNames, BadPattern, BadPlaces, NoRenaming
from namesakes.patterns import MOST_PLACES, Pattern, first_difference, is_finer, names_for, renaming_of
from tests.checks import Checks
from tests.families import ODD_THINGS, AlwaysEqual

NO_LISTS = (None, True, 5, "012", {0: 1}, {0}, iter([]), b"")
NO_NAMES = (True, False, -1, 10 ** 30 + 1, "1", 1.0, [], (), AlwaysEqual())


def small_patterns(size):
    """All patterns of the size, found by asking the constructor of every row."""
    found = []
    for entries in itertools.product([None, *range(size)], repeat=size):
        try:
            found.append(Pattern(entries))
        except BadPattern:
            pass
    return found


def plain_pattern(row):
    """The entries by which like items of the row are alike, told plainly."""
    firsts = [item for index, item in enumerate(row) if item is not None and item not in row[:index]]
    return tuple(None if item is None else firsts.index(item) for item in row)


class PatternTest(Checks):
    def test_entries(self):
        self.assertEqual(MOST_PLACES, 40)
        for entries in ((), (None,), (0, 0, None, 1, 0, 2), tuple(range(40)), (None,) * 40):
            self.assertEqual(Pattern(entries).entries, entries)
            self.assertEqual(Pattern(list(entries)).entries, entries)
            self.assertIs(type(Pattern(list(entries)).entries), tuple)

    def test_wrong_entries(self):
        for thing in NO_LISTS + (tuple(range(41)), [None] * 41, [True] * 41):
            self.refused(BadPattern, (0, "entries"), Pattern, thing)
        for thing in (True, False, -1, "0", 0.0, [], (), AlwaysEqual()):
            self.refused(BadPattern, (0, "entry"), Pattern, [thing, 5])
            self.refused(BadPattern, (2, "entry"), Pattern, (0, None, thing, 5))
        self.refused(BadPattern, (0, "order"), Pattern, [1, True])
        self.refused(BadPattern, (2, "order"), Pattern, (None, 0, 2, True))
        self.refused(BadPattern, (4, "order"), Pattern, (0, 1, 0, 1, 3))
        self.refused(BadPattern, (1, "order"), Pattern, (None, 10 ** 40))

    def test_of_names(self):
        self.assertEqual(Pattern.of_names([7, None, 3, 7, 0, 3]).entries, (0, None, 1, 0, 2, 1))
        self.assertEqual(Pattern.of_names(()).entries, ())
        self.assertEqual(Pattern.of_names([10 ** 30, 0]).entries, (0, 1))
        for names in NO_LISTS + ([1] * 41, (None,) * 41, [True] * 41):
            self.refused(BadNames, (0, "names"), Pattern.of_names, names)
        for thing in NO_NAMES:
            self.refused(BadNames, (1, "name"), Pattern.of_names, [None, thing, True])
        self.assertEqual(len(Pattern.of_names([1] * 40)), 40)

    def test_nothing_is_kept(self):
        entries = [0, 1]
        pattern = Pattern(entries)
        entries[1] = 0
        self.assertEqual(pattern.entries, (0, 1))

    def test_len_iteration_and_count(self):
        for entries, count in (((), 0), ((None, None), 0), ((0, None, 1, 1), 2), (tuple(range(40)), 40)):
            pattern = Pattern(entries)
            self.assertEqual((len(pattern), tuple(pattern), pattern.class_count), (len(entries), entries, count))

    def test_equality(self):
        self.assertEqual(Pattern((0, None, 1)), Pattern([0, None, 1]))
        self.unlike_all(Pattern((0, None, 1)), Pattern((0, 1, None)), Pattern((0, None)), (0, None, 1), None)

    def test_class_at_and_places_of(self):
        pattern = Pattern((0, None, 1, 0))
        self.assertEqual([pattern.class_at(place) for place in range(4)], [0, None, 1, 0])
        self.assertEqual([pattern.places_of(number) for number in (0, 1)], [(0, 3), (2,)])
        for thing in ODD_THINGS + (-1, 4):
            self.refused(BadPlaces, (0, "place"), pattern.class_at, thing)
        for thing in ODD_THINGS + (-1, 2):
            self.refused(BadClass, (thing,), pattern.places_of, thing)
        self.refused(BadClass, (0,), Pattern((None,)).places_of, 0)
        self.refused(BadPlaces, (0, "place"), Pattern(()).class_at, 0)

    def test_are_alike(self):
        pattern = Pattern((0, None, 1, 0, None))
        alike = [(0, 0), (0, 3), (3, 0), (2, 2), (3, 3)]
        for pair in itertools.product(range(5), repeat=2):
            self.assertIs(pattern.are_alike(*pair), pair in alike, pair)
        for thing in ODD_THINGS + (-1, 5):
            self.refused(BadPlaces, (0, "place"), pattern.are_alike, thing, None)
            self.refused(BadPlaces, (1, "place"), pattern.are_alike, 0, thing)

    def test_at_places(self):
        pattern = Pattern((0, None, 1, 0, 2))
        self.assertEqual(pattern.at_places([4, 2, 1, 4, 0, 3]).entries, (0, 1, None, 0, 2, 2))
        self.assertEqual(pattern.at_places(()).entries, ())
        self.assertEqual(pattern.at_places([2] * 40).entries, (0,) * 40)
        for thing in NO_LISTS + ([0] * 41, [None] * 41):
            self.refused(BadPlaces, (0, "places"), pattern.at_places, thing)
        for thing in ODD_THINGS + (-1, 5):
            self.refused(BadPlaces, (2, "place"), pattern.at_places, [0, 1, thing, None])


class ComparedTest(Checks):
    def test_patterns_that_do_not_match(self):
        for call in (is_finer, lambda one, other: one | other, lambda one, other: one & other):
            self.refused(BadMatch, ("places",), call, Pattern((0, None)), Pattern((0,)))
            self.refused(BadMatch, ("places",), call, Pattern((None,)), Pattern((0, 0)))
            self.refused(BadMatch, ("nobody",), call, Pattern((0, None)), Pattern((None, 0)))
            self.refused(BadMatch, ("nobody",), call, Pattern((0, None)), Pattern((0, 1)))
            self.refused(BadMatch, ("nobody",), call, Pattern((0, 0)), Pattern((0, None)))

    def test_examples(self):
        one, other = Pattern((0, 0, 1, 2, None, 3)), Pattern((0, 1, 1, 2, None, 2))
        self.assertEqual((one | other).entries, (0, 0, 0, 1, None, 1))
        self.assertEqual((one & other).entries, (0, 1, 2, 3, None, 4))
        self.assertIs(is_finer(one, one | other), True)
        self.assertIs(is_finer(one | other, one), False)
        chain = [Pattern((0, 0, 1, 1, 2, 2)), Pattern((0, 1, 1, 2, 2, 3))]
        self.assertEqual((chain[0] | chain[1]).entries, (0,) * 6)
        self.assertEqual((Pattern((0, 1, 0, 1)) | Pattern((0, 1, 2, 2))).entries, (0, 0, 0, 0))
        self.assertEqual((Pattern((0, 0, 1, 1)) & Pattern((0, 1, 0, 1))).entries, (0, 1, 2, 3))

    def test_all_small_ones(self):
        for size in range(5):
            patterns = small_patterns(size)
            for one in patterns:
                for other in patterns:
                    matches = [e is None for e in one] == [e is None for e in other]
                    if matches:
                        pairs = [pair for pair in itertools.combinations(range(size), 2) if one.are_alike(*pair)]
                        self.assertEqual(is_finer(one, other), all(other.are_alike(*pair) for pair in pairs))
                        both = tuple(None if a is None else (a, b) for a, b in zip(one, other))
                        self.assertEqual((one & other).entries, plain_pattern(both))

    def test_for_every_three(self):
        for size in range(5):
            patterns = [pattern for pattern in small_patterns(size) if None not in pattern.entries]
            if size == 4:
                patterns += [Pattern((0, 1, None, 2))]
            for one, other in itertools.product(patterns, repeat=2):
                if (None in one.entries) != (None in other.entries):
                    continue
                joined, met = one | other, one & other
                for third in patterns:
                    if (None in one.entries) == (None in third.entries):
                        self.assertEqual(is_finer(joined, third), is_finer(one, third) and is_finer(other, third))
                        self.assertEqual(is_finer(third, met), is_finer(third, one) and is_finer(third, other))

    def test_forty_places(self):
        one = Pattern(tuple(number // 2 for number in range(40)))
        other = Pattern((0,) + tuple((number + 1) // 2 for number in range(1, 40)))
        self.assertEqual((one | other).entries, (0,) * 40)
        self.assertEqual((one & other).entries, tuple(range(40)))


class NamesTest(Checks):
    def test_first_difference(self):
        pattern = Pattern((0, None, 1, 0))
        for names, place in (((5, None, 6, 5), None), ([5, None, 5, 5], 2), ((None, None, 5, None), 0), ((5, 6, 7, 5), 1),
                             ((5, None, 6, 6), 3), ((5, None, None, 5), 2), ((5, None, 6, None), 3)):
            self.assertEqual(first_difference(pattern, names), place, names)
        self.assertIsNone(first_difference(Pattern(()), []))

    def test_errors_of_first_difference(self):
        pattern = Pattern((0, None))
        for names in NO_LISTS + ([1] * 41,):
            self.refused(BadNames, (0, "names"), first_difference, pattern, names)
        for thing in NO_NAMES:
            self.refused(BadNames, (2, "name"), first_difference, pattern, [1, None, thing])
        for many in (0, 1, 3, 40):
            self.refused(BadNames, (many, "length"), first_difference, pattern, [1] * many)

    def test_names_for(self):
        pattern = Pattern((0, None, 1, 0))
        self.assertEqual(names_for(pattern, [7, 5, 9]), (7, None, 5, 7))
        self.assertEqual(names_for(pattern, (0, 10 ** 30)), (0, None, 10 ** 30, 0))
        self.assertEqual(names_for(Pattern((None,)), []), (None,))
        self.assertEqual(names_for(Pattern(tuple(range(40))), list(range(40))), tuple(range(40)))

    def test_errors_of_names_for(self):
        pattern = Pattern((0, None, 1, 0))
        for names in NO_LISTS + (list(range(41)),):
            self.refused(BadNames, (0, "names"), names_for, pattern, names)
        for thing in NO_NAMES + (None,):
            self.refused(BadNames, (1, "name"), names_for, pattern, [1, thing, 1])
        self.refused(BadNames, (2, "double"), names_for, pattern, [1, 2, 1, None])
        self.refused(BadNames, (1, "double"), names_for, pattern, [1, 1])
        self.refused(BadNames, (1, "few"), names_for, pattern, [1])
        self.refused(BadNames, (0, "few"), names_for, pattern, [])

    def test_renaming(self):
        self.assertEqual(renaming_of([7, None, 5, 7, 6], (1, None, 7, 1, 6)), ((7, 1), (5, 7), (6, 6)))
        self.assertEqual(renaming_of([], ()), ())
        self.assertEqual(renaming_of([None], [None]), ())
        for one, other, place in (((1, 2), (1, 1), 1), ((1, 1), (1, 2), 1), ((1,), (None,), 0), ((1, 2, 3), (1, 2), 2),
                                  ((), (None,), 0), ((1, 2), (4, 5, 6), 2), ((1, 1, 2), (1, 2), 1), ((1, 2, 1), (1, 2, 2), 2)):
            self.refused(NoRenaming, (place,), renaming_of, one, other)

    def test_errors_of_renaming(self):
        for names in NO_LISTS + ([1] * 41,):
            self.refused(BadNames, (0, "names"), renaming_of, names, None)
            self.refused(BadNames, (0, "names"), renaming_of, [1, 2], names)
        for thing in NO_NAMES:
            self.refused(BadNames, (1, "name"), renaming_of, [None, thing], None)
            self.refused(BadNames, (0, "name"), renaming_of, [None, None], [thing])

    def test_all_small_rows(self):
        rows = [row for size in range(4) for row in itertools.product((None, 4, 5, 6), repeat=size)]
        for row in rows:
            self.assertEqual(Pattern.of_names(row).entries, plain_pattern(row))
            for other in rows:
                unlike = [p for p in range(min(len(row), len(other))) if plain_pattern(row[:p + 1]) != plain_pattern(other[:p + 1])]
                pattern = Pattern.of_names(other)
                if len(row) == len(other):
                    self.assertEqual(first_difference(pattern, row), unlike[0] if unlike else None)
                if plain_pattern(row) == plain_pattern(other):
                    change = dict(renaming_of(row, other))
                    self.assertEqual(tuple(None if name is None else change[name] for name in row), other)
                else:
                    place = unlike[0] if unlike else min(len(row), len(other))
                    self.refused(NoRenaming, (place,), renaming_of, row, other)
