"""Families along the ways of a name [7.9], [7.11], [7.14]."""

import itertools
import random

from namesakes.carriers import Carriers
from namesakes.clauses import Free, Never, Number, Take, Unborne, Unlike
from namesakes.customs import Custom
from namesakes.descents import Descents
from namesakes.errors import BadLength, BadOrigin, BadWord, NotLet, NoWays, TooWide
from namesakes.fresh import check_ways, fresh_fault
from namesakes.kinwords import kin_words
from namesakes.linewords import line_words
from namesakes.naming import Naming
from namesakes.partings import _deeds_between, _partings_of
from namesakes.records import Record
from namesakes.wayfamilies import MOST_WORD, KinFamily, WayFamily, kin_family, kin_fault, way_family, way_fault
from tests.checks import Checks
from tests.families import ODD_THINGS, AlwaysEqual
from tests.freshworlds import ALIVE, HOUSED, chance_ways_custom, grown_worlds

FREE = [Free()]
PLAIN = Custom(FREE, FREE)
ELDEST = Custom([Take("ff", Number(1)), Free()], FREE)
FATHERS = Custom([Take("f"), Free()], FREE)
BROTHERS = Custom([Take("f", Unborne()), Free()], FREE)
ORIGINS = tuple(itertools.product(("founder", "free", "any"), "sd"))
WORDS = ["".join(word) for many in range(4) for word in itertools.product("sd", repeat=many)]
WIDE = Custom([Take("fff"), Take("ffm"), Take("fmf"), Free()], FREE)
# c and e are sons of a and b, k is c's son by l, n is e's son by o; c has his father's name, and so has k.
ROWS = [("comes", "a", "s", 1, ()), ("comes", "b", "d", 2, ()), ("weds", "a", "b"), ("born", "a", "b", "s", "c", 3), ("born", "a", "b", "s", "e", 4),
        ("comes", "l", "d", 5, ()), ("weds", "c", "l"), ("born", "c", "l", "s", "k", 6), ("comes", "o", "d", 7, ()), ("weds", "e", "o"), ("born", "e", "o", "s", "n", 8)]


class ResultsTest(Checks):
    def test_results(self):
        self.assertEqual(MOST_WORD, 12)
        way = WayFamily(record=1, first=2, last=3)
        self.assertEqual((way.record, way.first, way.last), (1, 2, 3))
        kin = KinFamily(1, 2, one=3, other=4)
        self.assertEqual((kin.record, kin.parting, kin.one, kin.other), (1, 2, 3, 4))


class WayTest(Checks):
    def has(self, custom, origin, word):
        """Ask for a family, hold it against the judge and the rows, and return whether there is one."""
        try:
            told = way_family(custom, origin, word)
        except NotLet as error:
            self.assertEqual((error.one, error.other), (word, None))
            return False
        self.assertIsNone(way_fault(custom, origin, word, told))
        record, naming = told.record, Naming(custom, told.record)
        self.assertIsNone(fresh_fault(custom, record))
        self.assertEqual(naming.given_of(told.first), naming.given_of(told.last))
        self.assertTrue(record.is_alive(told.first) and record.is_alive(told.last))
        return True

    def test_words_of_few_and_of_many_letters(self):
        for many in range(13):
            self.assertEqual(self.has(ELDEST, ("founder", "s"), "s" * many), many % 2 == 0)
            self.assertEqual(self.has(FATHERS, ("founder", "s"), "s" * many), True)
            self.assertEqual(self.has(FATHERS, ("founder", "d"), "s" * many), many == 0)
        told = way_family(ELDEST, ("any", "d"), "")
        self.assertEqual((told.first, len(told.record)), (told.last, 1))

    def test_each_origin(self):
        # Only founders can have the name of nobody at all; freely named sons are somebody's.
        for how, kind, words in (("founder", "s", ["", "s"]), ("free", "s", [""]), ("any", "d", [""])):
            custom = Custom([Take("f", Unlike("f", "m"), Number(1)), Free()], FREE)
            for word in words:
                self.assertTrue(self.has(custom, (how, kind), word))
        always = Custom([Take("f"), Free()], [Take("m"), Free()])
        self.assertEqual([self.has(always, origin, "") for origin in ORIGINS], [True, True, False, False, True, True])
        told = way_family(ELDEST, ("free", "s"), "ss")
        self.assertTrue(Naming(ELDEST, told.record).is_free(told.first))

    def test_both_kinds(self):
        custom = Custom([Take("mf"), Free()], [Take("fm"), Free()])
        self.assertEqual([word for word in WORDS if self.has(custom, ("founder", "s"), word)], ["", "ds"])
        self.assertEqual([word for word in WORDS if self.has(custom, ("any", "d"), word)], ["", "sd"])

    def test_names_that_come_behind_deaths(self):
        custom = Custom([Take("m", Unborne(), Number(2)), Free()], [Take("m", Never(), Number(3)), Free()])
        for word in ("s", "d", "dd", "ds"):
            self.assertTrue(self.has(custom, ("founder", "d"), word))
        self.assertFalse(self.has(custom, ("founder", "d"), "ss"))

    def test_by_chance_just_the_words_let(self):
        rng = random.Random(709)
        families = 0
        for _ in range(60):
            custom = chance_ways_custom(rng, rng.choice([2, 2, 3]))
            try:
                check_ways(custom)
            except TooWide:
                continue
            for origin in ORIGINS:
                machine = line_words(custom, origin)
                for word in WORDS:
                    self.assertEqual(self.has(custom, origin, word), word in machine)
                    families += word in machine
                longer = [word for word in machine.words_let(12) if len(word) > 9][:2]
                self.assertTrue(all(self.has(custom, origin, word) for word in longer))
        self.assertGreater(families, 300)

    def test_errors(self):
        result = WayFamily(Record(0), "a", "b")
        for custom, error, word in ((ALIVE, NoWays, "lives"), (HOUSED, NoWays, "houses"), (WIDE, TooWide, "names")):
            self.refused(error, (word,), way_family, custom, None, None)
            self.refused(error, (word,), way_fault, custom, None, None, result)
        for origin in ODD_THINGS + (("any",), ["any", "s"], ("born", "s"), ("any", "x"), (None, "s"), ("any", None), AlwaysEqual()):
            self.refused(BadOrigin, (origin,), way_family, ELDEST, origin, None)
            self.refused(BadOrigin, (origin,), way_fault, ELDEST, origin, None, result)
        for word in [thing for thing in ODD_THINGS if thing != ""] + ["x", "sS", " s", b"s", ["s"], AlwaysEqual()]:
            self.refused(BadWord, (word,), way_family, ELDEST, ("any", "s"), word)
            self.refused(BadWord, (word,), way_fault, ELDEST, ("any", "s"), word, result)
        self.refused(BadWord, ("s" * 13 + "x",), way_family, ELDEST, ("any", "s"), "s" * 13 + "x")
        for many in (13, 14, 500):
            self.refused(BadLength, (many,), way_family, ELDEST, ("any", "s"), "s" * many)
        self.refused(NotLet, ("s", None), way_family, ELDEST, ("any", "s"), "s")
        self.refused(NotLet, ("d" * 12, None), way_family, ELDEST, ("any", "s"), "d" * 12)


class WayJudgeTest(Checks):
    def fault(self, word, first, last, rows=None, custom=FATHERS, origin=("any", "s"), width=0):
        return way_fault(custom, origin, word, WayFamily(Record(width, ROWS if rows is None else rows), first, last))

    def test_words(self):
        for word, first, last, told in (
            ("", "a", "a", None), ("s", "a", "c", None), ("ss", "a", "k", None), ("s", "c", "k", None), ("ss", "a", "n", None), ("", "k", "k", None),
            ("s", "a", "x", "person"), ("s", "x", "c", "person"), ("", "x", "x", "person"), ("s", "b", "c", "origin"), ("", "l", "l", "origin"),
            ("s", "a", "a", "line"), ("", "a", "c", "line"), ("d", "a", "c", "line"), ("ss", "a", "c", "line"), ("s", "a", "k", "line"), ("s", "c", "n", "line"), ("s", "c", "a", "line"),
            ("ds", "a", "k", "line"), ("s" * 40, "a", "k", "line"), ("sss", "a", "k", "line"),
        ):
            self.assertEqual(self.fault(word, first, last), told, (word, first, last))

    def test_names(self):
        # By this custom only the first son has his father's father's name.
        self.assertIsNone(self.fault("ss", "a", "k", custom=ELDEST))
        self.assertIsNone(self.fault("ss", "a", "n", custom=ELDEST))
        for word, first, last in (("s", "a", "c"), ("s", "c", "k")):
            self.assertEqual(self.fault(word, first, last, custom=ELDEST), "name")

    def test_origins(self):
        for origin, first, told in ((("founder", "s"), "a", None), (("founder", "s"), "c", "origin"), (("free", "s"), "a", "origin"), (("free", "s"), "c", None), (("any", "s"), "c", None),
                                    (("any", "d"), "c", "origin"), (("founder", "d"), "b", None), (("free", "d"), "b", "origin"), (("founder", "s"), "b", "origin")):
            self.assertEqual(self.fault("", first, first, custom=ELDEST, origin=origin), told)
        # k took his name, so it is not free.
        self.assertEqual(self.fault("", "k", "k", custom=ELDEST, origin=("free", "s")), "origin")

    def test_the_dead(self):
        for dead, told in (("a", "dead"), ("k", "dead"), ("c", None), ("b", None)):
            self.assertEqual(self.fault("ss", "a", "k", rows=ROWS + [("dies", dead)]), told)
        self.assertEqual(self.fault("", "a", "a", rows=ROWS + [("dies", "a")]), "dead")
        self.assertEqual(self.fault("s", "a", "c", rows=ROWS + [("dies", "a")], custom=ELDEST), "name")

    def test_records_that_are_not_fresh(self):
        self.assertEqual(self.fault("s", "x", "c", rows=[("comes", "a", "s", 1, (5,))], width=1), "fresh")
        self.assertEqual(self.fault("s", "x", "c", rows=ROWS[:1] + [("comes", "b", "d", 1, ())]), "fresh")
        self.assertEqual(self.fault("s", "a", "c", rows=ROWS[:4] + [("born", "a", "b", "d", "x", 9), ("weds", "c", "x")]), "fresh")
        self.assertEqual(self.fault("", "c", "c", rows=ROWS[:3] + [("born", "a", "b", "s", "c", 1)], custom=ELDEST), "fresh")
        # The choice of a child whom a Take names may be any name.
        self.assertIsNone(self.fault("s", "a", "c", rows=ROWS[:3] + [("born", "a", "b", "s", "c", 2)]))

    def test_other_things_as_labels(self):
        for thing in ODD_THINGS + (AlwaysEqual(),):
            self.assertEqual(self.fault("s", thing, "c"), "person")
            self.assertEqual(self.fault("s", "a", thing), "person")

    def test_families_of_grown_records(self):
        rng = random.Random(710)
        for custom in (ELDEST, BROTHERS, Custom([Take("mf"), Free()], [Take("fm", Number(1)), Free()])):
            for world in grown_worlds(custom, rng, 15, 40):
                record = world.record()
                naming = Naming(custom, record)
                for first, last in itertools.product(record.persons, repeat=2):
                    path = self.line(world, first, last)
                    if path is None:
                        self.assertEqual(way_fault(custom, ("any", record.kind_of(first)), "s", WayFamily(record, first, last)), "line")
                        continue
                    word = "".join(record.kind_of(label) for label in path[1:])
                    told = way_fault(custom, ("any", record.kind_of(first)), word, WayFamily(record, first, last))
                    living = record.is_alive(first) and record.is_alive(last)
                    self.assertEqual(told, "name" if naming.given_of(first) != naming.given_of(last) else None if living else "dead")

    def line(self, world, first, last):
        """The line from first down to last, or None."""
        if first == last:
            return [last]
        for parent in world.parents.get(last, ()):
            line = self.line(world, first, parent)
            if line is not None:
                return line + [last]
        return None


class KinTest(Checks):
    def has(self, custom, one, other, **asked):
        try:
            told = kin_family(custom, one, other, **asked)
        except NotLet as error:
            self.assertEqual((error.one, error.other), (one, other))
            return False
        self.assertIsNone(kin_fault(custom, one, other, told, **asked))
        record, naming = told.record, Naming(custom, told.record)
        self.assertIsNone(fresh_fault(custom, record))
        self.assertEqual(naming.given_of(told.one), naming.given_of(told.other))
        if asked.get("living"):
            self.assertTrue(record.is_alive(told.one) and record.is_alive(told.other))
        return True

    def test_the_document(self):
        self.assertEqual([self.has(BROTHERS, *pair, living=living) for pair, living in ((("s", "s"), False), (("s", "s"), True), (("ss", "s"), True))], [True, False, True])
        self.assertEqual([self.has(BROTHERS, "s", "ss", living=living) for living in (False, True)], [True, True])
        # Unless it is asked, the two are full kin and need not live.
        self.assertTrue(self.has(BROTHERS, "s", "s"))
        self.assertFalse(self.has(ELDEST, "s", "s"))

    def test_full_and_half_kin(self):
        once = Custom([Take("f", Never()), Free()], FREE)
        for half, told in ((False, False), (True, True)):
            self.assertEqual(self.has(once, "s", "ss", half=half), told)
            self.assertEqual(self.has(once, "sss", "s", half=half, living=True), told)
        self.assertEqual([self.has(ELDEST, "ss", "ss", half=half) for half in (False, True)], [True, True])
        # Only a half brother is a first son of one father, too; and first sons have no name of their own fathers.
        self.assertEqual([self.has(ELDEST, "s", "s", half=half) for half in (False, True)], [False, True])

    def test_the_elder_child_dies_ahead_of_the_younger_one(self):
        told = kin_family(BROTHERS, "ss", "s", living=True)
        father = told.record.father_of(told.one)
        self.assertFalse(told.record.is_alive(father))
        self.assertLess(told.record.row_of(told.one), told.record.row_of(told.other))

    def test_the_deeds_between_the_births_stand_in_order(self):
        rng = random.Random(713)
        longest = 0
        # The first son takes his mother's name, the second one chooses, the third one takes his father's.
        by_turns = Custom([Take("f", Number(3), Unlike("mm", "m")), Take("m", Never(), Unlike("m", "mf")), Free("mm")],
                          [Take("ff", Number(3)), Take("mf", Unlike("f", "mm")), Free("f")])
        for custom in [by_turns] + [chance_ways_custom(rng) for _ in range(20)]:
            try:
                carriers = Carriers(custom)
            except TooWide:
                continue
            for one, other in (("s", "s"), ("d", "s"), ("s", "d"), ("ds", "s")):
                descents = (Descents(carriers, one), Descents(carriers, other))
                for father, mother, couple in carriers.world.couples:
                    for parting in _partings_of(carriers, father, mother, couple, descents, False)[:200]:
                        deeds = _deeds_between(parting)
                        longest = max(longest, len(deeds))
                        situation = parting.situation
                        for deed in [("born", *parting.pair[0]), *deeds, ("born", *parting.pair[1])]:
                            situation = couple.situations[dict(situation.deeds)[deed]]
        self.assertGreater(longest, 1)

    def test_empty_and_long_words(self):
        for half in (False, True):
            for pair in (("", ""), ("", "s"), ("s", "")):
                self.assertFalse(self.has(FATHERS, *pair, half=half))
            self.assertTrue(self.has(FATHERS, "s" * 12, "s" * 12, half=half, living=True))
            self.assertTrue(self.has(FATHERS, "s" * 11, "s", half=half))
            self.assertFalse(self.has(FATHERS, "s" * 11, "d", half=half))

    def test_by_chance_just_the_words_let(self):
        rng = random.Random(711)
        families = 0
        for _ in range(50):
            custom = chance_ways_custom(rng, rng.choice([2, 2, 3]))
            try:
                check_ways(custom)
            except TooWide:
                continue
            for half, living in itertools.product((False, True), repeat=2):
                kin = kin_words(custom, half=half)
                for one, other in [(rng.choice(WORDS), rng.choice(WORDS)) for _ in range(12)] + [("s", "s"), ("s", "d"), ("d", "d"), ("ss", "s"), ("d", "ss")]:
                    told = kin.lets(one, other, living=living)
                    self.assertEqual(self.has(custom, one, other, half=half, living=living), told, (str(custom), one, other, half, living))
                    families += told
        self.assertGreater(families, 200)

    def test_errors(self):
        result = KinFamily(Record(0), "a", "b", "c")
        for custom, error, word in ((ALIVE, NoWays, "lives"), (HOUSED, NoWays, "houses"), (WIDE, TooWide, "names")):
            self.refused(error, (word,), kin_family, custom, None, None)
            self.refused(error, (word,), kin_fault, custom, None, None, result)
        for word in [thing for thing in ODD_THINGS if thing != ""] + ["x", "sS", b"s", ["s"], AlwaysEqual()]:
            self.refused(BadWord, (word,), kin_family, ELDEST, word, None)
            self.refused(BadWord, (word,), kin_family, ELDEST, "s" * 13, word)
            self.refused(BadWord, (word,), kin_fault, ELDEST, word, None, result)
            self.refused(BadWord, (word,), kin_fault, ELDEST, "s", word, result)
        self.refused(BadLength, (13,), kin_family, ELDEST, "s" * 13, "d" * 14, half=True)
        self.refused(BadLength, (14,), kin_family, ELDEST, "", "d" * 14)
        self.refused(NotLet, ("s", "s"), kin_family, ELDEST, "s", "s")
        self.refused(NotLet, ("", "d" * 12), kin_family, ELDEST, "", "d" * 12)


class KinJudgeTest(Checks):
    def fault(self, one, other, labels, rows=None, custom=FATHERS, width=0, **asked):
        return kin_fault(custom, one, other, KinFamily(Record(width, ROWS if rows is None else rows), *labels), **asked)

    def test_words(self):
        for one, other, labels, told in (
            ("s", "s", "ace", None), ("ss", "ss", "akn", None), ("s", "ss", "acn", None), ("ss", "s", "ake", None), ("s", "s", "aec", None),
            ("s", "s", "xce", "person"), ("s", "s", "axe", "person"), ("s", "s", "acx", "person"),
            ("", "s", "aae", "line"), ("s", "", "aca", "line"), ("d", "s", "ace", "line"), ("s", "d", "ace", "line"), ("ss", "s", "ace", "line"), ("s", "s", "ack", "line"), ("s", "s", "lce", "line"),
            ("s", "s", "kce", "line"), ("s", "ss", "ack", "parting"), ("s", "s", "acc", "parting"), ("ss", "ss", "akk", "parting"),
        ):
            self.assertEqual(self.fault(one, other, labels), told, (one, other, labels))
        self.assertEqual(self.fault("s", "s", "ace", half=True), "parting")
        # The mother is a parting person, too; but the name came in with the father.
        self.assertEqual(self.fault("s", "s", "bce"), "name")

    def test_half_kin(self):
        rows = ROWS[:4] + [("dies", "b"), ("comes", "g", "d", 11, ()), ("weds", "a", "g"), ("born", "a", "g", "s", "h", 12)]
        self.assertIsNone(self.fault("s", "s", "ach", rows, half=True))
        self.assertEqual(self.fault("s", "s", "ach", rows), "parting")
        self.assertEqual(self.fault("s", "s", "acc", rows, half=True), "parting")

    def test_names(self):
        # Neither of two brothers has the name of the father's father here, both cousins have.
        self.assertIsNone(self.fault("ss", "ss", "akn", custom=ELDEST))
        self.assertEqual(self.fault("s", "s", "ace", custom=ELDEST), "name")
        self.assertEqual(self.fault("s", "ss", "acn", custom=ELDEST), "name")
        # One of the two has the parting person's name, the other one has not.
        for labels, words in (("ake", ("ss", "s")), ("aek", ("s", "ss"))):
            self.assertEqual(self.fault(*words, labels, custom=ELDEST), "name")
        # The name came in with an elder of the parting person.
        rows = ROWS[:4] + [("comes", "l", "d", 5, ()), ("weds", "c", "l"), ("born", "c", "l", "s", "k", 6), ("born", "c", "l", "s", "n", 8)]
        self.assertIsNone(self.fault("s", "s", "ckn", rows))
        # It came in with a mate's elder: the parting person is another one.
        mothers = Custom([Take("m"), Free()], FREE)
        self.assertIsNone(self.fault("s", "s", "lkn", rows, custom=mothers))
        self.assertEqual(self.fault("s", "s", "ckn", rows, custom=mothers), "name")

    def test_the_dead(self):
        for dead, told in (("c", "dead"), ("e", "dead"), ("a", None), ("k", None)):
            self.assertEqual(self.fault("s", "s", "ace", ROWS + [("dies", dead)], living=True), told)
            self.assertIsNone(self.fault("s", "s", "ace", ROWS + [("dies", dead)]))

    def test_records_that_are_not_fresh(self):
        self.assertEqual(self.fault("s", "s", "xce", [("comes", "a", "s", 1, (5,))], width=1), "fresh")
        self.assertEqual(self.fault("s", "s", "xce", ROWS + [("comes", "g", "d", 1, ())]), "fresh")
        self.assertEqual(self.fault("s", "s", "ace", ROWS[:5] + [("born", "a", "b", "d", "g", 9), ("weds", "c", "g")]), "fresh")

    def test_other_things_as_labels(self):
        for thing in ODD_THINGS + (AlwaysEqual(),):
            for place in range(3):
                labels = list("ace")
                labels[place] = thing
                self.assertEqual(self.fault("s", "s", labels), "person")

    def test_kin_in_several_ways(self):
        # Two brothers wed two sisters: the name tells which way is meant.
        rows = [("comes", "a", "s", 1, ()), ("comes", "b", "d", 2, ()), ("weds", "a", "b"), ("comes", "c", "s", 3, ()), ("comes", "e", "d", 4, ()), ("weds", "c", "e"),
                ("born", "a", "b", "s", "g", 5), ("born", "a", "b", "s", "h", 6), ("born", "c", "e", "d", "k", 7), ("born", "c", "e", "d", "l", 8),
                ("weds", "g", "k"), ("weds", "h", "l"), ("born", "g", "k", "s", "n", 9), ("born", "h", "l", "s", "o", 10)]
        for custom, parting, told in ((ELDEST, "a", None), (ELDEST, "c", "line"), (Custom([Take("mf"), Free()], FREE), "c", None)):
            word = "ss" if parting == "a" else "ds"
            self.assertEqual(self.fault("ss" if told == "line" else word, "ss" if told == "line" else word, (parting, "n", "o"), rows, custom=custom), told)
        self.assertEqual(self.fault("ds", "ds", "cno", rows, custom=ELDEST), "name")
        self.assertEqual(self.fault("ss", "ss", "ano", rows, custom=Custom([Take("mf"), Free()], FREE)), "name")

    def test_families_of_grown_records(self):
        rng = random.Random(712)
        found = 0
        for custom in (ELDEST, BROTHERS, Custom([Take("f", Number(2)), Free()], [Take("f", Unborne()), Free()])):
            for world in grown_worlds(custom, rng, 10, 50):
                record = world.record()
                for one, other in itertools.combinations(record.persons, 2):
                    first, second = world.paths[one], world.paths[other]
                    if world.givens[one] != world.givens[other] or one in second or other in first:
                        continue
                    same = 0
                    while first[same] == second[same]:
                        same += 1
                    half = world.parents[first[same]] != world.parents[second[same]]
                    words = ["".join(record.kind_of(label) for label in path[same:]) for path in (first, second)]
                    family = KinFamily(record, first[same - 1], one, other)
                    found += 1
                    self.assertIsNone(kin_fault(custom, *words, family, half=half))
                    self.assertEqual(kin_fault(custom, *words, family, half=not half), "parting")
                    living = record.is_alive(one) and record.is_alive(other)
                    self.assertEqual(kin_fault(custom, *words, family, half=half, living=True), None if living else "dead")
        self.assertGreater(found, 30)
