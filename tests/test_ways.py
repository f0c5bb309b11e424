"""Words of lines and of kin [7.8], [7.10], [7.11], [7.14]."""

import itertools
import random

from namesakes.carriers import line_machine
from namesakes.clauses import Free, Never, Number, Take, Unborne, Unlike
from namesakes.customs import Custom
from namesakes.errors import BadOrigin, BadWord, NoWays, TooWide
from namesakes.fresh import check_ways, fresh_fault
from namesakes.kinwords import KinWords, kin_words
from namesakes.linewords import line_words
from namesakes.machines import Machine
from tests.checks import Checks
from tests.families import ODD_THINGS, AlwaysEqual
from tests.freshworlds import ALIVE, chance_ways_custom, grown_worlds
from tests.test_machines import EVERYTHING, NOTHING

FREE = [Free()]
PLAIN = Custom(FREE, FREE)
ELDEST = Custom([Take("ff", Number(1)), Free()], FREE)
BROTHERS = Custom([Take("f", Unborne()), Free()], FREE)
ORIGINS = tuple(itertools.product(("founder", "free", "any"), "sd"))
EMPTY_WORD = ((True, None, None),)
SHORT = ["".join(word) for many in (1, 2) for word in itertools.product("sd", repeat=many)]


class LineTest(Checks):
    def test_by_hand(self):
        for origin in ORIGINS:
            self.assertEqual(line_words(PLAIN, origin).rooms, EMPTY_WORD)
        for how in ("founder", "free", "any"):
            self.assertEqual(line_words(ELDEST, (how, "s")).rooms, ((True, 1, None), (False, 0, None)))
            self.assertEqual(line_words(ELDEST, (how, "d")).rooms, EMPTY_WORD)
            self.assertEqual(line_words(Custom([Take("f"), Free()], [Take("m"), Free()]), ("founder", "s")).rooms, ((True, 0, None),))

    def test_origins_that_there_cannot_be(self):
        # Each son has his father's name, so none is named freely; daughters are.
        custom = Custom([Take("f"), Free()], FREE)
        self.assertEqual(line_words(custom, ("free", "s")), NOTHING)
        self.assertEqual(line_words(custom, ("founder", "s")).rooms, ((True, 0, None),))
        self.assertEqual(line_words(custom, ("any", "s")).rooms, ((True, 0, None),))
        self.assertEqual(line_words(custom, ("free", "d")).rooms, EMPTY_WORD)

    def test_origins_that_part(self):
        # A founder's son has nobody's name above his father's; only born men hand it on.
        custom = Custom([Take("f", Unlike("f", "ff")), Free()], FREE)
        self.assertEqual(line_words(custom, ("founder", "s")).rooms, EMPTY_WORD)
        self.assertEqual(line_words(custom, ("free", "s")).rooms, ((True, 1, None), (True, None, None)))
        self.assertEqual(line_words(custom, ("any", "s")).rooms, ((True, 1, None), (True, None, None)))

    def test_longer_ways(self):
        custom = Custom([Take("fff"), Free()], FREE)
        self.assertEqual(line_words(custom, ("any", "s")).rooms, ((True, 1, None), (False, 2, None), (False, 0, None)))
        custom = Custom(FREE, [Take("mmm", Number(4)), Free()])
        self.assertEqual(line_words(custom, ("free", "d")).rooms, ((True, None, 1), (False, None, 2), (False, None, 0)))
        custom = Custom([Take("mf"), Free()], [Take("fm"), Free()])
        self.assertEqual([word for word in SHORT if word in line_words(custom, ("founder", "s"))], ["ds"])
        self.assertEqual([word for word in SHORT if word in line_words(custom, ("founder", "d"))], ["sd"])

    def test_wrong_origins(self):
        wrong = ODD_THINGS + ((), ("any",), ("any", "s", 1), ["any", "s"], ("Any", "s"), ("any", "f"), ("any", "sd"), ("any", None), (None, "s"),
                              ("s", "any"), "anys", "as", (True, "s"), ("free", True), (["any"], "s"), ("any", ["s"]), ("born", "s"), AlwaysEqual(),
                              (AlwaysEqual(), "s"), ("any", AlwaysEqual()), {"any": 1, "s": 2})
        for origin in wrong:
            self.refused(BadOrigin, (origin,), line_words, ELDEST, origin)
            self.refused(NoWays, ("lives",), line_words, ALIVE, origin)


class KinTest(Checks):
    def told(self, kin):
        """The triples with the short words of their machines."""
        return sorted((tuple(elder.words_let(2)), tuple(younger.words_let(2)), living) for elder, younger, living in kin.products)

    def test_the_result(self):
        for kin in (KinWords(1, 2), KinWords(products=2, half=1)):
            self.assertEqual((kin.half, kin.products), (1, 2))
        self.assertEqual((kin_words(ELDEST).half, kin_words(ELDEST, half=True).half), (False, True))
        self.assertIs(type(kin_words(ELDEST).products), tuple)

    def test_nobody(self):
        for half in (False, True):
            kin = kin_words(PLAIN, half=half)
            self.assertEqual(kin.products, ())
            self.assertIs(kin.lets("s", "s"), False)

    def test_full_by_hand(self):
        ((elder, younger, living),) = kin_words(ELDEST).products
        self.assertEqual((elder.rooms, elder == younger, living), (((False, 1, None), (False, 2, None), (True, 1, None)), True, True))
        self.assertEqual(self.told(kin_words(BROTHERS)), [(("s", "ss"), ("s", "ss"), False)])
        # Two sons have the name at one time only if a Take gives it to both.
        both = Custom([Take("f"), Free()], FREE)
        self.assertEqual(self.told(kin_words(both)), [(("s", "ss"), ("s", "ss"), True)])
        once = Custom([Take("f", Never()), Free()], FREE)
        self.assertEqual(kin_words(once).products, ())
        # The second son and each daughter have the father's name, and hand it on as they may.
        mixed = Custom([Take("f", Number(2)), Free()], [Take("f", Unborne()), Free()])
        self.assertEqual(self.told(kin_words(mixed)), [(("d",), ("d",), False), (("d",), ("s", "ss", "sd"), True), (("s", "ss", "sd"), ("d",), False)])

    def test_half_by_hand(self):
        kin = kin_words(BROTHERS, half=True)
        self.assertTrue(all(living is True for _, _, living in kin.products))
        self.assertEqual([pair for pair in itertools.product(SHORT, repeat=2) if kin.lets(*pair)], [("s", "s"), ("s", "ss"), ("ss", "s"), ("ss", "ss")])
        once = Custom([Take("f", Never(), Number(1)), Free()], FREE)
        self.assertTrue(kin_words(once, half=True).lets("s", "sss", living=True))
        self.assertEqual(kin_words(once).products, ())

    def test_triples_stand_once(self):
        rng = random.Random(95)
        for custom in [chance_ways_custom(rng) for _ in range(40)]:
            for half in (False, True):
                try:
                    products = kin_words(custom, half=half).products
                except TooWide:
                    continue
                pairs = [(elder.rooms, younger.rooms) for elder, younger, _ in products]
                self.assertEqual(len(set(pairs)), len(pairs))
                self.assertTrue(all(type(part) is tuple and len(part) == 3 and type(part[2]) is bool for part in products))
                for machine in [machine for part in products for machine in part[:2]]:
                    self.assertIs(type(machine), Machine)
                    self.assertNotEqual(machine, NOTHING)
                    self.assertEqual(machine | NOTHING, machine)
                    self.assertNotIn("", machine)

    def test_lets(self):
        son, sons = Machine(((False, 1, None), (True, None, None))), Machine(((False, 1, None), (False, 2, None), (True, 1, None)))
        daughter = Machine(((False, None, 1), (True, None, None)))
        kin = KinWords(False, ((sons, daughter, False), (son, sons, True)))
        for one, other, plain, living in (("ss", "d", True, True), ("d", "ss", True, True), ("s", "ss", True, True), ("ss", "s", True, True), ("s", "d", False, False),
                                          ("s", "s", False, False), ("ss", "ss", False, False), ("d", "d", False, False), ("", "d", False, False)):
            self.assertIs(kin.lets(one, other), plain)
            self.assertIs(kin.lets(one, other, living=True), living)
            self.assertIs(kin.lets(one, other, living=False), plain)
        kin = KinWords(False, ((son, daughter, False), (daughter, sons, False)))
        self.assertEqual([kin.lets(*pair) for pair in (("s", "d"), ("d", "s"), ("d", "ss"), ("ss", "d"))], [True] * 4)
        # The first machine's word has one letter in each: the elder child itself would have to live.
        self.assertEqual([kin.lets(*pair, living=True) for pair in (("s", "d"), ("d", "s"), ("d", "ss"), ("ss", "d"))], [False] * 4)

    def test_an_empty_word_is_never_let(self):
        for custom in (ELDEST, BROTHERS, Custom([Take("f"), Free()], [Take("m"), Free()])):
            for half in (False, True):
                kin = kin_words(custom, half=half)
                for word in ("", "s", "ss", "d"):
                    self.assertIs(kin.lets("", word), False)
                    self.assertIs(kin.lets(word, "", living=True), False)

    def test_no_words(self):
        for kin in (KinWords(False, ()), kin_words(BROTHERS), KinWords(True, ((EVERYTHING, EVERYTHING, True),))):
            for thing in [thing for thing in ODD_THINGS if thing != ""] + ["x", "sd ", b"s", ["s"], AlwaysEqual()]:
                self.refused(BadWord, (thing,), kin.lets, thing, None)
                self.refused(BadWord, (thing,), kin.lets, "s", thing, living=True)

    def test_the_elder_one_can_have_died(self):
        kin = kin_words(BROTHERS)
        self.assertEqual((kin.lets("s", "s"), kin.lets("s", "s", living=True), kin.lets("ss", "s", living=True), kin.lets("s", "ss", living=True)),
                         (True, False, True, True))

    def test_two_ways_to_one_pair_of_machines(self):
        # Two daughters have their mother's mother's name, one behind the other's death, whether that is their
        # mother's name, too, or not.
        custom = Custom(FREE, [Take("m", Never()), Take("mm", Unborne()), Free("mm")])
        kin = kin_words(custom)
        self.assertEqual((kin.lets("d", "d"), kin.lets("d", "d", living=True), kin.lets("d", "dd", living=True)), (True, False, True))

    def test_more_letters(self):
        kin = kin_words(ELDEST)
        self.assertTrue(kin.lets("s" * 400, "s" * 2))
        self.assertFalse(kin.lets("s" * 401, "s" * 2))


class RoomsTest(Checks):
    def test_too_many_rooms(self):
        class Endless:
            """Carriers whose lots never come again."""

            def children_of(self, lot, kind):
                return (lot[0] + 1,)

            def is_bearer(self, carrier):
                return True

        self.refused(TooWide, ("rooms",), line_machine, Endless(), True, (0,), (0,))


class RecordsTest(Checks):
    """What grown records show is let; for small customs every short word that is let is shown [7.14]."""

    SMALL = (
        ELDEST, BROTHERS, Custom([Take("f", Number(2)), Free()], [Take("f", Unborne()), Free()]),
        Custom([Take("ff", Never()), Free()], [Take("m", Number(1)), Free("ever")]), Custom([Take("mf"), Free()], [Take("fm", Number(1)), Free()]),
    )

    def shown(self, custom, rng, many, rows):
        lines, kin = {origin: set() for origin in ORIGINS}, {False: set(), True: set()}
        for world in grown_worlds(custom, rng, many, rows):
            self.assertIsNone(fresh_fault(custom, world.record()))
            for origin, word in world.lines():
                lines[origin].add(word)
            for half, one, other, both in world.kin():
                kin[half] |= {(one, other, False), (other, one, False), (one, other, both), (other, one, both)}
        return lines, kin

    def hold(self, custom, lines, kin):
        machines = {origin: line_words(custom, origin) for origin in ORIGINS}
        for origin, words in lines.items():
            self.assertEqual([word for word in words if word not in machines[origin]], [])
        both = {half: kin_words(custom, half=half) for half in (False, True)}
        for half, told in kin.items():
            self.assertEqual([entry for entry in told if not both[half].lets(*entry[:2], living=entry[2])], [])
        return machines, both

    def test_small_customs(self):
        rng = random.Random(96)
        for custom in self.SMALL:
            lines, kin = self.shown(custom, rng, 500, 70)
            machines, both = self.hold(custom, lines, kin)
            for origin, machine in machines.items():
                self.assertEqual(set(machine.words_let(2)) - lines[origin], set(), origin)
            for half, told in kin.items():
                for one, other, living in itertools.product(("s", "d", "ss", "sd", "ds", "dd"), ("s", "d"), (False, True)):
                    if both[half].lets(one, other, living=living):
                        self.assertIn((one, other, living), told)

    def test_by_chance_customs(self):
        rng = random.Random(97)
        for _ in range(25):
            custom = chance_ways_custom(rng, rng.choice([2, 2, 3]))
            try:
                check_ways(custom)
            except TooWide:
                continue
            self.hold(custom, *self.shown(custom, rng, 12, 50))
