"""Clauses that name nobody [6.10]."""

import random

from namesakes.alikes import clauses_used
from namesakes.clauses import Alive, Dead, Free, Never, Number, Take, Unborne, Unlike
from namesakes.customs import Custom
from namesakes.errors import TooWide
from namesakes.families import ClauseUse
from namesakes.naming import Naming
from namesakes.records import Record
from namesakes.scopes import Scope
from namesakes.tables import Table, table_of
from namesakes.unused import clause_use, use_fault
from tests.checks import Checks
from tests.families import chance_custom, chance_record

FREE = [Free()]
PLAIN = Custom(FREE, FREE)
ROWS = [("comes", "a", "s", 1, ()), ("comes", "b", "d", 2, ()), ("weds", "a", "b")]


class UseCase(Checks):
    def unused(self, custom):
        """Ask, hold the answer against judge and rows, and return the unused clauses."""
        result = clause_use(custom)
        self.assertIsNone(use_fault(custom, result))
        self.assertEqual(result.table, table_of(Scope(custom)))
        everything = [(kind, index) for kind in "sd" for index in range(len(custom.clauses(kind)))]
        used = [entry[:2] for entry in result.used]
        self.assertEqual(sorted(everything), sorted(list(result.unused) + used))
        for entries in (list(result.unused), used):
            self.assertEqual(entries, [clause for clause in everything if clause in entries])
        for kind, index, record in result.used:
            child = record.rows[-1][4]
            self.assertEqual((record.rows[-1][0], record.kind_of(child), Naming(custom, record).clause_of(child)), ("born", kind, index))
        self.assertEqual((type(result.unused), type(result.used)), (tuple, tuple))
        return result.unused


class UseTest(UseCase):
    def test_by_hand(self):
        self.assertEqual(self.unused(PLAIN), ())
        # A father is always somebody, and lives at a birth.
        self.assertEqual(self.unused(Custom([Take("f"), Take("m"), Free()], [Take("mm"), Free()])), (("s", 1), ("s", 2)))
        self.assertEqual(self.unused(Custom([Take("ff", Dead("f")), Free()], [Take("m", Alive("m")), Take("f", Dead("m")), Free()])), (("s", 0), ("d", 1), ("d", 2)))
        self.assertEqual(self.unused(Custom([Take("f", Number(1)), Take("m", Number(2)), Take("f", Number(1)), Free()], FREE)), (("s", 2),))
        self.assertEqual(self.unused(Custom([Take("f", Number(2), Number(3)), Free()], [Take("f", Unlike("f", "f")), Free("f")])), (("s", 0), ("d", 0)))
        self.assertEqual(self.unused(Custom([Take("f", Never()), Take("f", Unborne()), Take("f", Never()), Free()], FREE)), (("s", 2),))
        self.assertEqual(self.unused(Custom([Take("fff", Alive("fff")), Free()], FREE)), ())

    def test_names_that_are_alike_always(self):
        # The father has his own father's name always, where he is a son of somebody.
        custom = Custom([Take("f", Unlike("f", "ff")), Take("f"), Free()], FREE)
        self.assertEqual(self.unused(custom), (("s", 0), ("s", 2)))
        custom = Custom([Take("ff", Unlike("f", "ff")), Take("f"), Free()], FREE)
        self.assertEqual(self.unused(custom), (("s", 0), ("s", 2)))

    def test_too_wide(self):
        wide = Custom([Take("fff"), Take("ffm"), Take("fmf"), Free()], FREE)
        self.refused(TooWide, ("names",), clause_use, wide)
        self.refused(TooWide, ("names",), use_fault, wide, ClauseUse(None, (), ()))
        states = Custom([Take("fff", Dead("fm")), Take("mm"), Free()], [Take("mmm", Never()), Free()])
        self.refused(TooWide, ("states",), clause_use, states)
        self.assertEqual(use_fault(states, ClauseUse(None, (), ())), "clauses")

    def test_by_chance(self):
        rng = random.Random(610)
        found = 0
        for _ in range(80):
            custom = chance_custom(rng, longest=rng.choice([2, 2, 3]))
            try:
                unused = self.unused(custom)
            except TooWide:
                continue
            found += len(unused)
            for _ in range(6):
                record = chance_record(rng, custom, rng.randint(6, 25), pool=rng.choice([2, 5, 40]))
                self.assertFalse(set(clauses_used(Naming(custom, record))) & set(unused))
        self.assertGreater(found, 20)

    def test_a_take_that_names_nobody_can_be_left_out(self):
        rng = random.Random(611)
        for _ in range(40):
            custom = chance_custom(rng, most=2)
            try:
                unused = [index for kind, index in clause_use(custom).unused if kind == "s" and index < len(custom.sons) - 1]
            except TooWide:
                continue
            for index in unused:
                less = Custom([*custom.sons[:index], *custom.sons[index + 1:]], custom.daughters, house=custom.house, son_weds=custom.son_weds, daughter_weds=custom.daughter_weds)
                record = chance_record(rng, custom, 20)
                naming, other = Naming(custom, record), Naming(less, record)
                self.assertTrue(all(naming.given_of(label) == other.given_of(label) for label in naming))


class JudgeTest(Checks):
    def setUp(self):
        self.custom = Custom([Take("f", Number(1)), Take("m", Number(1)), Free()], [Take("m", Dead("mm")), Free("m")])
        self.use = clause_use(self.custom)

    def fault(self, **changes):
        return use_fault(self.custom, ClauseUse(**{"table": self.use.table, "unused": self.use.unused, "used": self.use.used, **changes}))

    def test_the_result(self):
        self.assertIsNone(self.fault())
        self.assertEqual(self.use.unused, (("s", 1),))
        self.assertEqual([entry[:2] for entry in self.use.used], [("s", 0), ("s", 2), ("d", 0), ("d", 1)])

    def test_clauses(self):
        used = self.use.used
        for unused in ((), (("s", 1), ("s", 1)), (("s", 1), ("s", 3)), (("s", 0), ("s", 1)), (("s", 1), ("d", 1)), (("d", 2), ("s", 1)), (("x", 1),), (("s", -1),)):
            self.assertEqual(self.fault(unused=unused), "clauses", unused)
        for wrong in (used[1:], used[:-1], used[::-1], used + used[:1], used[:1] + used, (used[1], used[0], used[2], used[3]), used + (("d", 2, used[0][2]),)):
            self.assertEqual(self.fault(used=wrong), "clauses")
        # An unused clause that should be used, and the other way round, are in order.
        self.assertEqual(self.fault(unused=(("s", 1), ("s", 2)), used=(used[0], used[2], used[3])), "step")
        self.assertEqual(self.fault(unused=(("s", 0), ("s", 1)), used=used[1:]), "step")
        self.assertEqual(self.fault(unused=(("s", 2), ("s", 1)), used=(used[0], used[2], used[3])), "clauses")
        self.assertEqual(self.fault(unused=(), used=(used[0], ("s", 1, used[0][2]), *used[1:])), "record")

    def test_records(self):
        used = self.use.used
        born = ("born", "a", "b", "s", "c", 3)
        for record, word in ((Record(0, ROWS + [born]), None), (Record(0, ROWS), "record"), (Record(0), "record"), (Record(1), "record"), (Record(0, ROWS + [born, ("dies", "a")]), "record"),
                             (Record(0, ROWS + [born, ("born", "a", "b", "s", "e", 3)]), "record"), (Record(0, ROWS + [("born", "a", "b", "d", "c", 3)]), "record"),
                             (Record(0, ROWS + [("born", "a", "b", "d", "e", 2), born]), "record")):
            self.assertEqual(self.fault(used=(("s", 0, record), *used[1:])), word, record.rows)
        self.assertEqual(self.fault(used=(*used[:3], ("d", 1, Record(0, ROWS + [("born", "a", "b", "d", "c", 2)])))), "record")
        self.assertIsNone(self.fault(used=(*used[:3], ("d", 1, Record(0, ROWS + [("born", "a", "b", "d", "c", 1)])))))

    def test_tables(self):
        for state in self.use.table.states[::3]:
            self.assertEqual(self.fault(table=self.use.table.without(state)), "table")
        for scope in (Scope(PLAIN), Scope(self.custom, self.custom), Scope(self.custom, followed=True)):
            self.assertEqual(self.fault(table=table_of(scope)), "table")
        backwards = Table(self.use.table.scope, tuple(reversed(self.use.table.states)))
        self.assertIsNone(self.fault(table=backwards))
        self.assertIsNone(self.fault(table=table_of(Scope(self.custom, also=("m",)))))
