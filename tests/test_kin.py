"""Kin [1.8]."""

import random

from namesakes.errors import NoPerson
from namesakes.kin import are_kin, elders_of, kin_weddings, kinship_of, ways_to
from namesakes.records import WAYS, Record
from tests.checks import Checks
from tests.families import ODD_THINGS, chance_custom, chance_record, line_rows

# a and b have c, e and g; c weds the founder h and has i; e weds the founder j
# and has k; i and k, cousins, wed and have l. Then b is dead, a weds m: half
# sibling n of c.
ROWS = [
    ("comes", "a", "s", 1, ()), ("comes", "b", "d", 1, ()), ("weds", "a", "b"),
    ("born", "a", "b", "s", "c", 1), ("born", "a", "b", "d", "e", 1), ("born", "a", "b", "d", "g", 1),
    ("comes", "h", "d", 1, ()), ("weds", "c", "h"), ("born", "c", "h", "s", "i", 1),
    ("comes", "j", "s", 1, ()), ("weds", "j", "e"), ("born", "j", "e", "d", "k", 1),
    ("weds", "i", "k"), ("born", "i", "k", "s", "l", 1),
    ("dies", "b"), ("comes", "m", "d", 1, ()), ("weds", "a", "m"), ("born", "a", "m", "s", "n", 1),
]


class KinTest(Checks):
    def setUp(self):
        self.record = Record(0, ROWS)

    def test_ways(self):
        self.assertEqual(ways_to(self.record, "a"), ())
        self.assertEqual(ways_to(self.record, "c"), (("f", "a"), ("m", "b")))
        self.assertEqual(
            ways_to(self.record, "l"),
            (("f", "i"), ("m", "k"), ("ff", "c"), ("fm", "h"), ("mf", "j"), ("mm", "e"),
             ("fff", "a"), ("ffm", "b"), ("mmf", "a"), ("mmm", "b")),
        )

    def test_elders(self):
        self.assertEqual(elders_of(self.record, "a"), ())
        self.assertEqual(elders_of(self.record, "i"), ("a", "b", "c", "h"))
        self.assertEqual(elders_of(self.record, "l"), ("a", "b", "c", "e", "h", "i", "j", "k"))

    def test_kin(self):
        for one, other in (("a", "a"), ("a", "l"), ("l", "a"), ("c", "e"), ("i", "k"), ("n", "l"), ("c", "n"), ("h", "l")):
            self.assertIs(are_kin(self.record, one, other), True, (one, other))
        for one, other in (("a", "b"), ("b", "n"), ("h", "k"), ("j", "i"), ("m", "l")):
            self.assertIs(are_kin(self.record, one, other), False, (one, other))
            self.assertIs(are_kin(self.record, other, one), False, (one, other))

    def test_kinship(self):
        wanted = {
            ("a", "a"): ("", ""), ("c", "e"): ("f", "f"), ("c", "a"): ("f", ""), ("a", "c"): ("", "f"),
            ("c", "b"): ("m", ""), ("i", "k"): ("ff", "mf"), ("c", "n"): ("f", "f"), ("l", "a"): ("fff", ""),
            ("a", "l"): ("", "fff"), ("l", "e"): ("mm", ""), ("l", "g"): ("fff", "f"), ("g", "l"): ("f", "fff"),
            ("i", "l"): ("", "f"), ("l", "h"): ("fm", ""), ("a", "b"): None, ("h", "j"): None,
        }
        for (one, other), pair in wanted.items():
            self.assertEqual(kinship_of(self.record, one, other), pair, (one, other))

    def test_kinship_goes_three_letters_up_at_most(self):
        record = Record(0, line_rows(6))
        son = record.born
        self.assertEqual(kinship_of(record, son[5], son[2]), ("fff", ""))
        self.assertIsNone(kinship_of(record, son[5], son[1]))
        self.assertIs(are_kin(record, son[5], son[1]), True)

    def test_the_shorter_way_is_told(self):
        # Uncle and niece wed: their child reaches the grandfather by two ways.
        rows = ROWS[:9] + [("dies", "h"), ("born", "a", "b", "d", "o", 1), ("weds", "c", "o"), ("born", "c", "o", "d", "p", 1)]
        record = Record(0, rows)
        self.assertEqual(kinship_of(record, "p", "o"), ("m", ""))
        self.assertEqual(kinship_of(record, "p", "i"), ("f", "f"))
        self.assertEqual(kinship_of(record, "i", "p"), ("f", "f"))
        self.assertEqual(kinship_of(record, "p", "g"), ("ff", "f"))
        rows = ROWS[:12] + [("weds", "i", "g"), ("born", "i", "g", "s", "q", 1)]
        record = Record(0, rows)
        self.assertEqual(kinship_of(record, "q", "a"), ("mf", ""))
        self.assertEqual(kinship_of(record, "q", "e"), ("mf", "f"))
        self.assertEqual(kinship_of(record, "q", "i"), ("f", ""))
        self.assertEqual(kinship_of(record, "q", "k"), ("mf", "mf"))

    def test_kin_weddings(self):
        self.assertEqual(kin_weddings(self.record), (("i", "k"),))
        self.assertEqual(kin_weddings(Record(0)), ())
        rows = ROWS[:6] + [("weds", "c", "e"), ("dies", "b"), ("weds", "a", "g")]
        self.assertEqual(kin_weddings(Record(0, rows)), (("c", "e"), ("a", "g")))

    def test_nobody(self):
        for thing in ODD_THINGS + ("x",):
            self.refused(NoPerson, (thing,), ways_to, self.record, thing)
            self.refused(NoPerson, (thing,), elders_of, self.record, thing)
            for call in (are_kin, kinship_of):
                self.refused(NoPerson, (thing,), call, self.record, thing, "a")
                self.refused(NoPerson, (thing,), call, self.record, "a", thing)
        for call in (are_kin, kinship_of):
            self.refused(NoPerson, ("x",), call, self.record, "x", "y")

    def test_more_than_a_thousand_generations(self):
        record = Record(0, line_rows(1600))
        last = record.born[-1]
        self.assertEqual(len(elders_of(record, last)), 3200)
        self.assertEqual(elders_of(record, last)[:3], ("fz", "mz", record.born[0]))
        self.assertIs(are_kin(record, last, "fz"), True)
        self.assertIs(are_kin(record, last, record.mother_of(last)), True)
        self.assertEqual(kin_weddings(record), ())

    def test_by_chance_kin_are_as_told(self):
        rng = random.Random(2)
        for _ in range(25):
            record = chance_record(rng, chance_custom(rng), 25)
            elders = {}
            for who in record.persons:
                above = [record.father_of(who), record.mother_of(who)]
                elders[who] = {e for parent in above if parent for e in {parent} | elders[parent]}
                self.assertEqual(elders_of(record, who), tuple(p for p in record.persons if p in elders[who]))
            for one in record.persons:
                for other in record.persons:
                    common = ({one} | elders[one]) & ({other} | elders[other])
                    self.assertEqual(are_kin(record, one, other), bool(common))
                    self.assertEqual(kinship_of(record, one, other), self.nearest(record, one, other))
            self.assertEqual(kin_weddings(record), tuple(p for p in record.weddings if are_kin(record, *p)))

    def nearest(self, record, one, other):
        pairs = [(way, back) for way in WAYS for back in WAYS
                 if record.elder_of(one, way) is not None and record.elder_of(one, way) == record.elder_of(other, back)]
        return min(pairs, key=lambda p: (len(p[0]) + len(p[1]), len(p[0]), WAYS.index(p[0]), WAYS.index(p[1])), default=None)
