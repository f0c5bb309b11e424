"""How far below their parting person kin can have one name [7.13]."""

import itertools
import random
import unittest.mock

from namesakes import degrees as module
from namesakes.clauses import Alive, Free, Never, Number, Take, Unborne
from namesakes.customs import Custom
from namesakes.degrees import can_be_namesakes, degrees
from namesakes.errors import BadNumber, NoWays, TooWide
from namesakes.fresh import check_ways
from namesakes.kinwords import KinWords, kin_words
from namesakes.lengths import Lengths
from namesakes.machines import Machine
from tests.checks import Checks
from tests.families import ODD_THINGS, AlwaysEqual
from tests.freshworlds import ALIVE, HOUSED, chance_ways_custom

FREE = [Free()]
PLAIN = Custom(FREE, FREE)
ELDEST = Custom([Take("ff", Number(1)), Free()], FREE)
WORDS = {many: ["".join(word) for word in itertools.product("sd", repeat=many)] for many in range(5)}


def lets_any(kin, up, down):
    return any(kin.lets(one, other) for one in WORDS[up] for other in WORDS[down])


class DegreesTest(Checks):
    def test_the_document(self):
        told = degrees(ELDEST)
        self.assertEqual((told.early, told.start, told.period, told.rest), ((), 0, 2, (1,)))
        self.assertEqual((degrees(ELDEST, half=True).period, can_be_namesakes(ELDEST, 10 ** 30, 3)), (1, False))

    def test_none(self):
        for half in (False, True):
            self.assertEqual(degrees(PLAIN, half=half), Lengths((), 0, 1, ()))
            self.assertFalse(can_be_namesakes(PLAIN, 1, 1, half=half))
        self.assertEqual(degrees(Custom([Take("f", Never()), Free()], FREE)), Lengths((), 0, 1, ()))

    def test_finite(self):
        # Only the founders' sons take a name, and nobody takes it from them.
        custom = Custom([Take("m"), Free()], FREE)
        self.assertEqual(degrees(custom), Lengths((0,), 1, 1, ()))
        self.assertEqual(degrees(custom, half=True), Lengths((0,), 1, 1, ()))
        self.assertTrue(can_be_namesakes(custom, 1, 1))
        for pair in ((1, 2), (2, 1), (2, 2), (1, 10 ** 30), (10 ** 30, 1)):
            self.assertFalse(can_be_namesakes(custom, *pair))
        custom = Custom([Take("fm"), Free()], FREE)
        self.assertEqual(degrees(custom), Lengths((0, 1), 2, 1, ()))

    def test_endless(self):
        custom = Custom([Take("f"), Free()], FREE)
        self.assertEqual(degrees(custom), Lengths((), 0, 1, (0,)))
        for pair in ((1, 1), (10 ** 30, 1), (1, 10 ** 30), (10 ** 30, 10 ** 30)):
            self.assertTrue(can_be_namesakes(custom, *pair))
        # Brothers never have it, if only the first son does; half brothers may.
        custom = Custom([Take("f", Number(1)), Free()], FREE)
        self.assertEqual(degrees(custom), Lengths((), 0, 1, ()))
        self.assertEqual(degrees(custom, half=True), Lengths((), 0, 1, (0,)))
        custom = Custom([Take("fff", Number(1)), Free()], FREE)
        self.assertEqual(degrees(custom), Lengths((), 0, 3, (1, 2)))
        self.assertEqual(degrees(custom, half=True), Lengths((), 0, 1, (0,)))
        custom = Custom([Take("fff"), Free()], FREE)
        self.assertEqual(degrees(custom), Lengths((), 0, 1, (0,)))
        self.assertEqual([can_be_namesakes(custom, 10 ** 30, down) for down in (1, 2, 3, 4, 10 ** 30 - 3, 10 ** 30 - 2)], [True, False, False, True, True, False])

    def test_far_numbers(self):
        even = 10 ** 30
        self.assertEqual([can_be_namesakes(ELDEST, even - more, 2) for more in (0, 1, 2)], [True, False, True])
        self.assertEqual([can_be_namesakes(ELDEST, 2, even - more) for more in (0, 1, 2)], [True, False, True])
        self.assertEqual([can_be_namesakes(ELDEST, even - 1, even - more) for more in (0, 1, 2)], [False, False, False])
        self.assertEqual([can_be_namesakes(ELDEST, even - 1, down, half=True) for down in (1, 2, 3, even - 1, even)], [True, False, True, True, False])
        self.assertIn(10 ** 30 - 1, degrees(ELDEST))

    def test_either_order(self):
        # The younger one's line alone can be long: elder daughters end the name.
        custom = Custom([Take("f", Number(2)), Free()], [Take("f", Number(1)), Free()])
        for pair in ((1, 1), (1, 2), (2, 1), (1, 9), (9, 1)):
            self.assertTrue(can_be_namesakes(custom, *pair), pair)
        self.assertFalse(can_be_namesakes(custom, 2, 2))

    def test_by_chance_against_words(self):
        rng = random.Random(701)
        endless = 0
        for _ in range(40):
            custom = chance_ways_custom(rng, rng.choice([2, 2, 3]))
            try:
                check_ways(custom)
            except TooWide:
                continue
            for half in (False, True):
                kin = kin_words(custom, half=half)
                told = degrees(custom, half=half)
                endless += told.is_endless
                for n in range(4):
                    self.assertEqual(n in told, lets_any(kin, n + 1, n + 1))
                for up, down in itertools.product(range(1, 4), repeat=2):
                    self.assertIs(can_be_namesakes(custom, up, down, half=half), lets_any(kin, up, down))
                for far in (10 ** 30 - 1, 10 ** 30 - 60):
                    self.assertEqual(far in told, can_be_namesakes(custom, far + 1, far + 1, half=half))
                    # It comes again behind 60, if the numbers ahead of the round are passed.
                    near = 60 + (far - 60) % told.period if 60 % told.period == 0 else None
                    if near is not None and told.start <= 60:
                        self.assertEqual(far in told, near in told)
        self.assertGreater(endless, 10)

    def test_errors(self):
        for call in (lambda custom: degrees(custom), lambda custom: degrees(custom, half=True), lambda custom: can_be_namesakes(custom, None, None)):
            self.refused(NoWays, ("lives",), call, ALIVE)
            self.refused(NoWays, ("houses",), call, HOUSED)
            self.refused(TooWide, ("names",), call, Custom([Take("fff"), Take("ffm"), Take("fmf"), Free()], FREE))
            self.refused(TooWide, ("tracked",), call, Custom([Take("f", Never()), Take("m", Never()), Take("ff", Unborne()), Free()], FREE))
        self.refused(NoWays, ("lives",), degrees, Custom([Take("f.0", Alive("f")), Free()], FREE, house=[("f", 0)]))
        for thing in ODD_THINGS + (0, -1, 10 ** 30 + 1, AlwaysEqual()):
            for half in (False, True):
                self.refused(BadNumber, (thing,), can_be_namesakes, ELDEST, thing, None, half=half)
                self.refused(BadNumber, (thing,), can_be_namesakes, ELDEST, 1, thing, half=half)

    def test_rounds_too_long(self):
        def ring(many):
            return Machine(tuple((room == 0, (room + 1) % many, None) for room in range(many)))

        def products(*pairs):
            return lambda custom, *, half=False: KinWords(half, tuple((ring(one), ring(other), True) for one, other in pairs))

        with unittest.mock.patch.object(module, "kin_words", products((97, 101))):
            told = degrees(PLAIN)
            self.assertEqual((told.early, told.start, told.period, told.rest), ((), 0, 97 * 101, (97 * 101 - 1,)))
        with unittest.mock.patch.object(module, "kin_words", products((101, 103))):
            self.refused(TooWide, ("rounds",), degrees, PLAIN)
            # Whether two numbers are let is told without a common round.
            self.assertTrue(can_be_namesakes(PLAIN, 101 * 10 ** 20, 103))
            self.assertTrue(can_be_namesakes(PLAIN, 103, 101))
            self.assertFalse(can_be_namesakes(PLAIN, 101, 101))
        with unittest.mock.patch.object(module, "kin_words", products((4, 6), (9, 9))):
            told = degrees(PLAIN)
            self.assertEqual([n for n in range(40) if n in told], [8, 11, 17, 23, 26, 35])
