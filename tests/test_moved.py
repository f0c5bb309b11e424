"""Moved records [1.9], [1.10]."""

import random

from namesakes.errors import BadPairs, BadRecord, NoPerson
from namesakes.moved import cut_record, mirror_record, records_beside, relabel_record, rename_record
from namesakes.naming import Naming
from namesakes.records import Record
from tests.checks import Checks
from tests.families import ODD_THINGS, chance_custom, chance_record, label_at, line_rows

ROWS = [
    ("comes", "a", "s", 1, (5,)), ("comes", "b", "d", 2, (6,)), ("weds", "a", "b"),
    ("born", "a", "b", "s", "c", 3), ("dies", "b"),
]


class MovedTest(Checks):
    def setUp(self):
        self.record = Record(1, ROWS)

    def test_mirror(self):
        self.assertEqual(
            mirror_record(self.record),
            Record(1, [
                ("comes", "a", "d", 1, (5,)), ("comes", "b", "s", 2, (6,)), ("weds", "b", "a"),
                ("born", "b", "a", "d", "c", 3), ("dies", "b"),
            ]),
        )
        self.assertEqual(mirror_record(mirror_record(self.record)), self.record)
        self.assertEqual(mirror_record(Record(2)), Record(2))

    def test_rename(self):
        renamed = rename_record(self.record, [(1, 2), [2, 1], (3, 30), (5, 50), (9, 3)])
        self.assertEqual(
            renamed,
            Record(1, [
                ("comes", "a", "s", 2, (50,)), ("comes", "b", "d", 1, (6,)), ("weds", "a", "b"),
                ("born", "a", "b", "s", "c", 30), ("dies", "b"),
            ]),
        )
        self.assertEqual(rename_record(self.record, ()), self.record)
        self.assertEqual(rename_record(self.record, [(7, 1), (8, 8), (1, 1)]), self.record)

    def test_relabel(self):
        relabelled = relabel_record(self.record, (("a", "b"), ("b", "c"), ["c", "a"], ("x", "a")))
        self.assertEqual(
            relabelled,
            Record(1, [
                ("comes", "b", "s", 1, (5,)), ("comes", "c", "d", 2, (6,)), ("weds", "b", "c"),
                ("born", "b", "c", "s", "a", 3), ("dies", "c"),
            ]),
        )
        self.assertEqual(relabel_record(self.record, [("x", "y")]), self.record)

    def test_relabelling_touches_no_other_word(self):
        record = Record(0, [("comes", "s", "s", 1, ()), ("comes", "d", "d", 1, ()), ("weds", "s", "d"),
                            ("born", "s", "d", "s", "comes", 1), ("dies", "s")])
        moved = relabel_record(record, [("s", "x"), ("d", "y"), ("comes", "born")])
        self.assertEqual(moved, Record(0, [
            ("comes", "x", "s", 1, ()), ("comes", "y", "d", 1, ()), ("weds", "x", "y"),
            ("born", "x", "y", "s", "born", 1), ("dies", "x")]))

    def test_pairs_that_are_none(self):
        for call, good in ((rename_record, (7, 8)), (relabel_record, ("x", "y"))):
            for pairs in (None, True, "ab", 5, {1: 2}, iter([])):
                self.refused(BadPairs, ("pairs",), call, self.record, pairs)
            for pair in ODD_THINGS + (good[:1], good + good[:1], "xy", set(good), {good[0]: 1}):
                self.refused(BadPairs, ("pair",), call, self.record, [good, pair])
            for thing in ODD_THINGS + (-1, 10 ** 30 + 1, "toolong", "A"):
                if thing != "own" or call is rename_record:
                    self.refused(BadPairs, ("pair",), call, self.record, [(thing, good[1])])
                    self.refused(BadPairs, ("pair",), call, self.record, [(good[0], thing)])
        self.assertEqual(rename_record(self.record, [(0, 0), (10 ** 30, 10 ** 30)]), self.record)

    def test_doubles(self):
        for second in (8, 9, 7):
            self.refused(BadPairs, ("double",), rename_record, self.record, [(7, 8), (7, second)])
        self.refused(BadPairs, ("double",), relabel_record, self.record, [("x", "y"), ("x", "y")])
        self.refused(BadPairs, ("double",), rename_record, self.record, [(1, 2), (1, 2), None])
        self.refused(BadPairs, ("pair",), rename_record, self.record, [(1, 2), (1, None)])

    def test_alike(self):
        for pairs in ([(1, 2)], [(5, 3)], [(6, 1)], [(3, 7), (5, 7)], [(1, 5), (2, 1), (5, 1)]):
            self.refused(BadPairs, ("alike",), rename_record, self.record, pairs)
        for pairs in ([("a", "b")], [("a", "x"), ("c", "x")]):
            self.refused(BadPairs, ("alike",), relabel_record, self.record, pairs)
        self.refused(BadPairs, ("double",), rename_record, self.record, [(1, 2), (1, 2)])
        self.assertEqual(rename_record(self.record, [(8, 7), (9, 7)]), self.record)

    def test_pairs_are_not_kept_or_changed(self):
        pairs = [[1, 9]]
        rename_record(self.record, pairs)
        self.assertEqual(pairs, [[1, 9]])

    def test_beside(self):
        other = Record(1, [("comes", "x", "s", 1, (5,)), ("dies", "x")])
        self.assertEqual(records_beside(self.record, other), Record(1, ROWS + list(other.rows)))
        self.assertEqual(records_beside(self.record, Record(0)), self.record)
        self.refused(BadRecord, (5, "label"), records_beside, self.record, self.record)
        self.refused(BadRecord, (5, "width"), records_beside, self.record, Record(0, [("comes", "x", "s", 1, ())]))

    def test_cut(self):
        rows = [
            ("comes", "a", "s", 1, ()), ("comes", "b", "d", 1, ()), ("weds", "a", "b"),
            ("born", "a", "b", "s", "c", 1), ("born", "a", "b", "d", "e", 1), ("comes", "g", "s", 1, ()),
            ("weds", "g", "e"), ("born", "g", "e", "s", "h", 1), ("comes", "i", "d", 1, ()), ("dies", "g"),
            ("comes", "j", "s", 1, ()), ("weds", "j", "e"), ("born", "j", "e", "s", "k", 1), ("weds", "h", "i"),
            ("dies", "a"), ("comes", "l", "s", 1, ()), ("weds", "l", "b"), ("born", "l", "b", "s", "m", 1),
        ]
        record = Record(0, rows)
        # c: the parents a, b, the sibling e, their mates g, j, l; no children.
        kept = [0, 1, 2, 3, 4, 5, 6, 9, 10, 11, 14, 15, 16]
        self.assertEqual(cut_record(record, "c"), Record(0, [rows[index] for index in kept]))
        # g is wed to e: her parents and siblings are in, her own children not.
        for who in ("e", "g", "j"):
            self.assertEqual(cut_record(record, who), cut_record(record, "c"))
        # The hearth of a holds the mate b and her mate l, but no children.
        for who in ("a", "b", "l"):
            self.assertEqual(cut_record(record, who), Record(0, [rows[index] for index in (0, 1, 2, 14, 15, 16)]))
        # h: the parents g, e and all of their hearth, and the mate i.
        kept = sorted(kept + [7, 8, 13])
        self.assertEqual(cut_record(record, "h"), Record(0, [rows[index] for index in kept]))
        self.assertEqual(cut_record(record, "i"), cut_record(record, "h"))
        for thing in ODD_THINGS + ("x",):
            self.refused(NoPerson, (thing,), cut_record, record, thing)

    def test_a_lone_founder(self):
        record = Record(0, [("comes", "a", "s", 1, ()), ("comes", "b", "s", 1, ()), ("dies", "a")])
        self.assertEqual(cut_record(record, "a"), Record(0, [record.rows[0], record.rows[2]]))
        self.assertEqual(cut_record(record, "b"), Record(0, [record.rows[1]]))

    def test_long_lines_and_many_children(self):
        record = Record(0, line_rows(1500))
        self.assertEqual(cut_record(record, record.born[-1]), record)
        rows = line_rows(0) + [("born", "fz", "mz", "s", "x" + label_at(n), n) for n in range(4000)]
        self.assertEqual(len(cut_record(Record(0, rows), "xaa")), 4003)

    def test_by_chance_the_hearth_bears_the_same_names(self):
        rng = random.Random(3)
        for _ in range(30):
            custom = chance_custom(rng)
            record = chance_record(rng, custom, 30)
            whole = Naming(custom, record)
            for who in record.persons:
                cut = cut_record(record, who)
                self.assertEqual(cut.persons, tuple(p for p in record.persons if p in self.hearth(record, who)))
                self.assertEqual(cut.rows, tuple(row for row in record.rows if row in cut.rows))
                part = Naming(custom, cut)
                for person in cut.persons:
                    for tell in ("given_of", "first_house_of", "house_of", "clause_of", "passed_of"):
                        self.assertEqual(getattr(part, tell)(person), getattr(whole, tell)(person))

    def hearth(self, record, label):
        found = {label}
        while True:
            more = set(found)
            for who in found:
                more |= {record.father_of(who), record.mother_of(who)} - {None}
                more |= set(record.siblings_of(who)) | set(record.mates_of(who))
            if more == found:
                return found
            found = more
