"""All patterns of a size [4.6], and rows of names [4.7]."""

import itertools

from namesakes.allpatterns import MOST_POOL, all_patterns, how_many_patterns, how_many_rows, name_rows, pattern_at, pattern_index
from namesakes.errors import BadCount, BadIndex, BadMatch, BadNames
from namesakes.patterns import Pattern
from tests.checks import Checks
from tests.families import ODD_THINGS
from tests.test_patterns import NO_LISTS, NO_NAMES, small_patterns

BELL = (1, 1, 2, 5, 15, 52, 203, 877, 4140, 21147, 115975)


def order(pattern):
    return [-1 if entry is None else entry for entry in pattern.entries]


def first(generator):
    return next(iter(generator))


class AllPatternsTest(Checks):
    def test_all_of_a_size_in_order(self):
        for size in range(5):
            wanted = sorted(small_patterns(size), key=order)
            self.assertEqual(list(all_patterns(size, nobody=True)), wanted)
            self.assertEqual(list(all_patterns(size)), [pattern for pattern in wanted if None not in pattern.entries])
            self.assertEqual(list(all_patterns(size, nobody=False)), list(all_patterns(size)))

    def test_the_counts(self):
        for size, count in enumerate(BELL):
            self.assertEqual(how_many_patterns(size), count)
        for size in range(40):
            self.assertEqual(how_many_patterns(size, nobody=True), how_many_patterns(size + 1))
        self.assertEqual(how_many_patterns(40), 157450588391204931289324344702531067)

    def test_numbers_there_and_back(self):
        for nobody in (False, True):
            for size in range(6):
                for index, pattern in enumerate(all_patterns(size, nobody=nobody)):
                    self.assertEqual(pattern_index(pattern, nobody=nobody), index)
                    self.assertEqual(pattern_at(size, index, nobody=nobody), pattern)

    def test_numbers_far_out(self):
        for nobody in (False, True):
            many = how_many_patterns(40, nobody=nobody)
            steps = range(0, many, many // 97)
            found = [pattern_at(40, index, nobody=nobody) for index in [*steps, many - 1]]
            self.assertEqual([pattern_index(pattern, nobody=nobody) for pattern in found], [*steps, many - 1])
            self.assertEqual([order(pattern) for pattern in found], sorted(order(pattern) for pattern in found))
            self.assertEqual(found[0].entries, ((None if nobody else 0),) * 40)
            self.assertEqual(found[-1].entries, tuple(range(40)))
        self.assertEqual(pattern_at(40, 1).entries, (0,) * 39 + (1,))
        self.assertEqual(first(all_patterns(40)), Pattern((0,) * 40))

    def test_the_first_of_forty_places(self):
        some = list(itertools.islice(all_patterns(40, nobody=True), 5))
        self.assertEqual([pattern.entries[37:] for pattern in some],
                         [(None, None, None), (None, None, 0), (None, 0, None), (None, 0, 0), (None, 0, 1)])

    def test_wrong_sizes(self):
        for thing in ODD_THINGS + (-1, 41):
            for nobody in (False, True):
                self.refused(BadCount, (thing,), how_many_patterns, thing, nobody=nobody)
                self.refused(BadCount, (thing,), lambda size: first(all_patterns(size, nobody=nobody)), thing)
                self.refused(BadCount, (thing,), pattern_at, thing, None, nobody=nobody)

    def test_wrong_indices(self):
        for thing in ODD_THINGS + (-1, 5):
            self.refused(BadIndex, (thing,), pattern_at, 3, thing)
        self.refused(BadIndex, (15,), pattern_at, 3, 15, nobody=True)
        self.refused(BadIndex, (1,), pattern_at, 0, 1)
        self.refused(BadIndex, (how_many_patterns(40),), pattern_at, 40, how_many_patterns(40))

    def test_nobody_in_a_pattern(self):
        self.refused(BadMatch, ("nobody",), pattern_index, Pattern((0, None)))
        self.refused(BadMatch, ("nobody",), pattern_index, Pattern((None,)), nobody=False)
        self.assertEqual(pattern_index(Pattern((0, None)), nobody=True), 2)


class RowsTest(Checks):
    def test_how_many_rows(self):
        self.assertEqual(MOST_POOL, 10 ** 6)
        pattern = Pattern((0, 1, None, 2, 0))
        self.assertEqual([how_many_rows(pattern, pool) for pool in range(6)], [0, 0, 0, 6, 24, 60])
        self.assertEqual(how_many_rows(pattern, 10 ** 6), 10 ** 6 * (10 ** 6 - 1) * (10 ** 6 - 2))
        for entries in ((), (None, None)):
            self.assertEqual([how_many_rows(Pattern(entries), pool) for pool in (0, 1, 10 ** 6)], [1, 1, 1])
        self.assertEqual(how_many_rows(Pattern(tuple(range(40))), 39), 0)
        for thing in ODD_THINGS + (-1, 10 ** 6 + 1):
            self.refused(BadCount, (thing,), how_many_rows, pattern, thing)

    def test_all_rows_together(self):
        for size in range(8):
            for pool in (0, 1, 2, 3, 10 ** 6):
                together = sum(how_many_rows(pattern, pool) for pattern in all_patterns(size))
                self.assertEqual(together, pool ** size)

    def test_the_rows_in_order(self):
        self.assertEqual(list(name_rows(Pattern((0, None, 1, 0)), [7, 5, 9])), [
            (7, None, 5, 7), (7, None, 9, 7), (5, None, 7, 5), (5, None, 9, 5), (9, None, 7, 9), (9, None, 5, 9),
        ])
        self.assertEqual(list(name_rows(Pattern((None,)), [1, 2])), [(None,)])
        self.assertEqual(list(name_rows(Pattern(()), ())), [()])
        self.assertEqual(list(name_rows(Pattern((0, 1)), [1])), [])

    def test_against_permutations(self):
        names = [8, 3, 5, 0, 10 ** 30]
        for size in range(5):
            for many in range(6):
                pool = names[:many]
                for pattern in all_patterns(size, nobody=True):
                    chosen = itertools.permutations(pool, pattern.class_count)
                    wanted = [tuple(None if e is None else row[e] for e in pattern) for row in chosen]
                    self.assertEqual(list(name_rows(pattern, pool)), wanted)
                    self.assertEqual(how_many_rows(pattern, many), len(wanted))

    def test_errors_of_the_rows(self):
        pattern = Pattern((0, 1))

        def call(names):
            return first(name_rows(pattern, names))

        for names in NO_LISTS + (list(range(41)),):
            self.refused(BadNames, (0, "names"), call, names)
        for thing in NO_NAMES + (None,):
            self.refused(BadNames, (1, "name"), call, [1, thing, 1])
        self.refused(BadNames, (2, "double"), call, [1, 2, 1, None])
        self.assertEqual(call(list(range(40))), (0, 1))
