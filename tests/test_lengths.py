"""Lengths [7.12]."""

import random

from namesakes.errors import BadNumber
from namesakes.lengths import Lengths, least_lengths
from tests.checks import Checks
from tests.families import ODD_THINGS, AlwaysEqual

EMPTY = Lengths((), 0, 1, ())
FINITE = Lengths((1, 4), 5, 1, ())
ODD = Lengths((), 0, 2, (1,))
MIXED = Lengths((0, 3), 6, 5, (1, 4))


class LengthsTest(Checks):
    def test_attributes(self):
        for lengths in (Lengths(1, 2, 3, 4), Lengths(rest=4, period=3, start=2, early=1)):
            self.assertEqual((lengths.early, lengths.start, lengths.period, lengths.rest), (1, 2, 3, 4))

    def test_members(self):
        self.assertEqual([n for n in range(30) if n in EMPTY], [])
        self.assertEqual([n for n in range(30) if n in FINITE], [1, 4])
        self.assertEqual([n for n in range(8) if n in ODD], [1, 3, 5, 7])
        self.assertEqual([n for n in range(23) if n in MIXED], [0, 3, 7, 10, 12, 15, 17, 20, 22])
        for n, told in ((10 ** 30, False), (10 ** 30 - 1, True)):
            self.assertIs(n in ODD, told)
        self.assertIs(10 ** 30 in MIXED, (10 ** 30 - 6) % 5 in (1, 4))
        self.assertIs(10 ** 30 in EMPTY, False)
        self.assertIs(1 in ODD, True)

    def test_no_numbers(self):
        for lengths in (EMPTY, FINITE, ODD, MIXED):
            for thing in ODD_THINGS + (-1, 10 ** 30 + 1, -10 ** 30, AlwaysEqual(), lengths):
                with self.assertRaises(BadNumber) as caught:
                    thing in lengths
                self.assertIs(caught.exception.number, thing)

    def test_properties(self):
        for lengths, told in ((EMPTY, (None, False, None)), (FINITE, (1, False, 4)), (ODD, (1, True, None)), (MIXED, (0, True, None)),
                              (Lengths((), 7, 3, (2,)), (9, True, None)), (Lengths((0,), 1, 1, ()), (0, False, 0)),
                              (Lengths((2,), 4, 1, (0,)), (2, True, None))):
            self.assertEqual((lengths.nearest, lengths.is_endless, lengths.farthest), told)
        for name in ("nearest", "is_endless", "farthest"):
            self.assertIsInstance(vars(Lengths)[name], property)

    def test_equality(self):
        self.assertEqual(MIXED, Lengths((0, 3), 6, 5, (1, 4)))
        self.unlike_all(MIXED, Lengths((0,), 6, 5, (1, 4)), Lengths((0, 3), 5, 5, (1, 4)), Lengths((0, 3), 6, 6, (1, 4)), Lengths((0, 3), 6, 5, (1,)),
                        None, ((0, 3), 6, 5, (1, 4)), EMPTY)

    def told(self, text, start):
        lengths = least_lengths([sign == "x" for sign in text], start)
        return (lengths.early, lengths.start, lengths.period, lengths.rest)

    def test_the_least_start_and_period(self):
        self.assertEqual(self.told(".", 0), ((), 0, 1, ()))
        self.assertEqual(self.told("x", 0), ((), 0, 1, (0,)))
        self.assertEqual(self.told(".x.", 2), ((1,), 2, 1, ()))
        self.assertEqual(self.told("....", 3), ((), 0, 1, ()))
        self.assertEqual(self.told("x.x.", 0), ((), 0, 2, (0,)))
        self.assertEqual(self.told(".x.x.x", 4), ((), 0, 2, (1,)))
        self.assertEqual(self.told("xx.x.x", 4), ((0,), 1, 2, (0,)))
        self.assertEqual(self.told(".xx.xx.xx", 3), ((), 0, 3, (1, 2)))
        self.assertEqual(self.told("x.xx.xx", 4), ((), 0, 3, (0, 2)))
        self.assertEqual(self.told("xxx", 2), ((), 0, 1, (0,)))

    def test_by_chance(self):
        rng = random.Random(91)
        for _ in range(400):
            start, period = rng.randint(0, 6), rng.randint(1, 8)
            members = [rng.random() < 0.5 for _ in range(start + period)]
            if rng.random() < 0.5:
                members = [at % 2 == 0 for at in range(start + period)]
            lengths = least_lengths(members, start)
            far = [members[n] if n < start else members[start + (n - start) % period] for n in range(60)]
            self.assertEqual([n in lengths for n in range(60)], far)
            for other_start in range(start + 1):
                for other_period in range(1, period + 1):
                    if all(far[n] == far[n + other_period] for n in range(other_start, 40)):
                        self.assertTrue(lengths.start <= other_start and lengths.period <= other_period)
            self.assertEqual(lengths.early, tuple(n for n in range(lengths.start) if far[n]))
            self.assertEqual(lengths.rest, tuple(n for n in range(lengths.period) if far[lengths.start + n]))
