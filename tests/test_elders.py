"""Living elders' names [6.1], [6.2], [6.8]."""

import random

from namesakes.clauses import Alive, Dead, Free, Never, Take, Unborne, Unlike
from namesakes.customs import Custom
from namesakes.elders import elder_fault, elder_namesakes
from namesakes.errors import BadAsked, TooWide
from namesakes.families import Family, NeverAlike
from namesakes.naming import Naming
from namesakes.records import Record
from namesakes.scopes import Scope
from namesakes.states import PersonState
from namesakes.tables import Table, table_of
from tests.checks import Checks
from tests.families import ODD_THINGS, AlwaysEqual, chance_custom, chance_record

FREE = [Free()]
# Three generations: g is the son of c, who is the son of a.
ROWS = [
    ("comes", "a", "s", 1, ()), ("comes", "b", "d", 2, ()), ("weds", "a", "b"), ("born", "a", "b", "s", "c", 3),
    ("comes", "e", "d", 4, ()), ("weds", "c", "e"), ("born", "c", "e", "s", "g", 1),
]
HOUSED = [
    ("comes", "a", "s", 1, (10,)), ("comes", "b", "d", 2, (20,)), ("weds", "a", "b"), ("born", "a", "b", "s", "c", 1),
    ("dies", "b"), ("comes", "e", "d", 4, (40,)), ("weds", "a", "e"),
]


def kinship(record, one, other, way, full, naming):
    """Whether other was born a namesake of its living elder one, read off plainly."""
    row = record.row_of(other)
    names = naming.given_of(one) == naming.given_of(other)
    houses = not full or naming.house_of(one) == naming.house_of(other)
    return record.elder_of(other, way) == one and ("dies", one) not in record.rows[:row] and names and houses


class ElderTest(Checks):
    def ask(self, custom, way, kind, full=False):
        """Ask, hold what is found against the judge and against the record, and return its class."""
        result = elder_namesakes(custom, way, kind, full=full)
        self.assertIsNone(elder_fault(custom, way, kind, result, full=full))
        scope = Scope(custom, also=(way,), houses=full)
        if isinstance(result, Family):
            record = result.record
            naming = Naming(custom, record.until(record.row_of(result.other) + 1))
            self.assertTrue(kinship(record, result.one, result.other, way, full, naming))
            self.assertEqual(record.kind_of(result.other), kind)
        else:
            self.assertEqual((result.table, result.followed), (table_of(scope), ()))
        return type(result)

    def test_customs_by_which_it_can_be(self):
        takes = Custom([Take("ff"), Free("f")], [Free("m")])
        for way, kind in (("f", "d"), ("m", "s"), ("ff", "s"), ("ff", "d"), ("fm", "s"), ("fm", "d"), ("mf", "d"), ("mm", "s")):
            self.assertIs(self.ask(takes, way, kind), Family)
        # The father's father had to be his grandfather's namesake, who was his father's.
        self.assertIs(self.ask(Custom([Take("fff"), Free("f")], FREE), "f", "s"), Family)
        self.assertIs(self.ask(Custom([Take("ff", Dead("ff")), Free("f")], FREE), "mf", "s"), Family)

    def test_customs_by_which_it_cannot(self):
        barred = Custom([Free("f", "ff")], [Free("m")])
        for way, kind, told in (("f", "s", NeverAlike), ("ff", "s", NeverAlike), ("f", "d", Family), ("m", "d", NeverAlike),
                                ("fm", "s", Family), ("m", "s", Family)):
            self.assertIs(self.ask(barred, way, kind), told)
        dead = Custom([Take("ff", Dead("ff")), Free("ff")], [Free("ff")])
        self.assertIs(self.ask(dead, "ff", "s"), NeverAlike)
        self.assertIs(self.ask(dead, "ff", "d"), NeverAlike)
        self.assertIs(self.ask(dead, "f", "s"), Family)
        alive = Custom([Take("ff", Alive("ff")), Free("ff")], [Free("ff")])
        self.assertIs(self.ask(alive, "ff", "s"), Family)
        self.assertIs(self.ask(Custom([Take("ff", Unlike("ff", "f")), Free("f")], FREE), "f", "s"), NeverAlike)
        self.assertIs(self.ask(Custom([Take("m", Unborne()), Free("f", "living")], [Free("f")]), "f", "d"), NeverAlike)

    def test_full_names(self):
        from_father = Custom(FREE, FREE, house=[("f", 0)], daughter_weds=[0])
        self.assertIs(self.ask(from_father, "f", "s", True), Family)
        self.assertIs(self.ask(from_father, "m", "d", True), Family)
        given = Custom([Free("f")], [Free("m", "f")], house=[("given", "f")])
        # A daughter's house name is her father's given name, which is no name of hers.
        self.assertIs(self.ask(given, "m", "s", True), Family)
        self.assertIs(self.ask(given, "f", "d", True), NeverAlike)
        self.assertIs(self.ask(given, "m", "d", True), NeverAlike)
        self.assertIs(self.ask(given, "f", "s", True), NeverAlike)
        # The mother's house name at the birth is that behind her wedding.
        wed = Custom([Take("m"), Free()], [Free("m")], house=[("f", 0)], daughter_weds=[0])
        self.assertIs(self.ask(wed, "m", "s", True), Family)
        apart = Custom([Take("f", Unlike("f", "f.0")), Free("f")], FREE, house=[("given", "m")])
        self.assertIs(self.ask(apart, "f", "s"), Family)
        two = Custom([Free("f.0")], FREE, house=[("f", 0), ("m", 0)])
        self.assertIs(self.ask(two, "f", "s", True), Family)
        crossed = Custom([Take("f", Unlike("f.0", "m.0")), Free("f")], [Free()], house=[("m", 0)])
        self.assertIs(self.ask(crossed, "f", "s", True), NeverAlike)
        self.assertIs(self.ask(crossed, "f", "s"), Family)
        self.assertIs(self.ask(crossed, "f", "d", True), Family)

    def test_full_without_house_names(self):
        self.assertIs(self.ask(Custom([Free("f")], FREE), "f", "s", True), NeverAlike)
        self.assertIs(self.ask(Custom([Free("f")], FREE), "m", "s", True), Family)

    def test_what_is_asked_goes_first(self):
        wide = Custom([Take("fff"), Take("ffm"), Take("fmf"), Free()], FREE)
        result = NeverAlike(None, None)
        for way in ODD_THINGS + ("fff", "x", "f.0", "F", AlwaysEqual()):
            for full in (False, True):
                self.refused(BadAsked, ("way",), elder_namesakes, wide, way, None, full=full)
                self.refused(BadAsked, ("way",), elder_fault, wide, way, None, result, full=full)
        for kind in ODD_THINGS + ("f", "sd", AlwaysEqual()):
            self.refused(BadAsked, ("kind",), elder_namesakes, wide, "ff", kind)
            self.refused(BadAsked, ("kind",), elder_fault, wide, "m", kind, result, full=True)
        for way in ("ff", "fm", "mf", "mm"):
            self.refused(BadAsked, ("way",), elder_namesakes, wide, way, "s", full=True)
            self.refused(BadAsked, ("way",), elder_fault, wide, way, "s", result, full=True)
        self.refused(TooWide, ("names",), elder_namesakes, wide, "f", "s")
        self.refused(TooWide, ("names",), elder_fault, wide, "f", "s", result)

    def test_too_wide_by_what_is_asked(self):
        custom = Custom([Take("ff"), Take("fm"), Take("mf"), Free()], FREE)
        self.refused(TooWide, ("names",), elder_namesakes, Custom([Take("fff"), Free()], FREE, house=[("f", 0)]), "f", "s", full=True)
        self.assertEqual(elder_fault(custom, "ff", "s", Family(Record(0), "a", "b")), "persons")
        lives = Custom([Take("f", Dead("ff"), Dead("fm")), Free()], FREE)
        self.refused(TooWide, ("lives",), elder_namesakes, Custom([Take("f", Dead("fff"), Dead("ff")), Free()], FREE), "fm", "s")
        self.assertIs(self.ask(lives, "f", "s"), Family)
        wide = Custom([Take("fff", Dead("fm")), Take("mm"), Free()], [Take("mmm", Never()), Free()])
        self.refused(TooWide, ("states",), elder_namesakes, wide, "f", "s")
        # A judge does not make a table.
        self.assertEqual(elder_fault(wide, "f", "s", NeverAlike(Table(Scope(wide, also=("f",)), []), ())), "table")

    def test_words_against_a_family(self):
        custom = Custom([Free("f")], FREE)
        rows = ROWS + [("born", "c", "e", "d", "h", 3), ("dies", "a"), ("born", "c", "e", "s", "i", 1)]
        record = Record(0, rows)

        def fault(way, kind, one, other, record=record, **named):
            return elder_fault(custom, way, kind, Family(record, one, other), **named)

        self.assertIsNone(fault("ff", "s", "a", "g"))
        self.assertIsNone(fault("f", "d", "c", "h"))
        for way, kind, one, other, word in (
            ("ff", "s", "a", "x", "persons"), ("ff", "s", "x", "g", "persons"), ("ff", "s", "x", "y", "persons"),
            ("ff", "s", "c", "g", "elder"), ("f", "s", "a", "g", "elder"), ("ff", "d", "g", "a", "elder"), ("f", "s", "a", "a", "elder"),
            ("ff", "s", "a", "i", "elder"), ("ff", "d", "a", "i", "elder"), ("ff", "d", "a", "g", "kind"), ("ff", "d", "a", "h", "names"),
            ("f", "s", "c", "g", "names"), ("fm", "s", "b", "g", "names"), ("f", "d", "c", "g", "kind"), ("m", "d", "e", "h", "names"),
        ):
            self.assertEqual(fault(way, kind, one, other), word, (way, kind, one, other))
        for thing in ODD_THINGS + (AlwaysEqual(),):
            self.assertEqual(fault("ff", "s", thing, "g"), "persons")
            self.assertEqual(fault("ff", "s", "a", thing), "persons")
        barred = record.after(("born", "c", "e", "s", "k", 3))
        self.assertEqual(fault("ff", "s", "a", "g", barred), "record")
        self.assertEqual(fault("ff", "s", "x", "g", barred), "record")
        self.assertEqual(fault("ff", "s", "a", "g", Record(1)), "record")

    def test_words_against_a_family_with_house_names(self):
        custom = Custom(FREE, FREE, house=[("given", "m")], son_weds=[0])
        # c is born when a has b's house name 20, k when a has e's, 40; its own one is e's given name.
        rows = HOUSED + [("born", "a", "e", "s", "k", 1)]
        family = Family(Record(1, rows), "a", "c")
        self.assertIsNone(elder_fault(custom, "f", "s", family))
        self.assertEqual(elder_fault(custom, "f", "s", family, full=True), "names")
        self.assertEqual(elder_fault(custom, "f", "d", family, full=True), "kind")
        for given, word in ((40, None), (20, "names"), (10, "names")):
            told = [row if row[1] != "e" else ("comes", "e", "d", given, (40,)) for row in HOUSED]
            record = Record(1, [tuple(row) for row in told[:6]] + rows[6:])
            self.assertEqual(elder_fault(custom, "f", "s", Family(record, "a", "k"), full=True), word)
            record = record.after(("dies", "e"), ("comes", "m", "d", 8, (9,)), ("weds", "a", "m"))
            # What the parent's house names become later does not count, nor do the child's.
            record = record.after(("comes", "n", "d", 8, (7,)), ("weds", "k", "n"))
            self.assertEqual(elder_fault(custom, "f", "s", Family(record, "a", "k"), full=True), word)
            record = Record(1, record.rows[:7] + (("born", "a", "e", "s", "k", 6),) + record.rows[8:])
            self.assertEqual(elder_fault(custom, "f", "s", Family(record, "a", "k"), full=True), "names")

    def test_words_against_a_paper(self):
        custom = Custom([Free("f")], [Free()])
        scope = Scope(custom, also=("f",))
        table = table_of(scope)
        for followed in ((), None, "any", (1, 2)):
            self.assertIsNone(elder_fault(custom, "f", "s", NeverAlike(table, followed)))
        self.assertEqual(elder_fault(custom, "f", "d", NeverAlike(table, ())), "again")
        for state in table:
            self.assertEqual(elder_fault(custom, "f", "s", NeverAlike(table.without(state), ())), "table")
            self.assertEqual(elder_fault(custom, "f", "d", NeverAlike(table.without(state), ())), "table")
        other = Custom([Free("f")], [Free("f")])
        for wrong in (Scope(other, also=("f",)), Scope(custom, custom, also=("f",)), Scope(custom, also=("f",), followed=True),
                      Scope(custom, also=("m",)), Scope(custom, also=("f", "m")), Scope(custom, also=("ff",)), Scope(custom, other)):
            self.assertEqual(elder_fault(custom, "f", "s", NeverAlike(table_of(wrong), ())), "table")

    def test_right_papers_that_it_does_not_return(self):
        custom = Custom([Free("f")], [Free("f")])
        # The way besides reads nothing that is not read anyhow.
        for scope in (Scope(custom, also=("f",)), Scope(custom), Scope(custom, also=["f", "f"]), Scope(custom, also=("f",), houses=True)):
            table = table_of(scope)
            self.assertEqual(scope.reads, Scope(custom, also=("f",)).reads)
            self.assertIsNone(elder_fault(custom, "f", "s", NeverAlike(table, ())))
            backwards = Table(scope, tuple(reversed(table.states)))
            self.assertIsNone(elder_fault(custom, "f", "s", NeverAlike(backwards, ())))
        more = Table(scope, table.states + (PersonState("d", (), (), 5),))
        self.assertEqual(elder_fault(custom, "f", "s", NeverAlike(more, ())), "table")
        couples = [type(couple)(couple.names, couple.lives, 0, 0, couple.borne, (0, 5)) for couple in table.couples]
        more = Table(scope, more.states + tuple(couples))
        self.assertIsNone(elder_fault(custom, "f", "s", NeverAlike(more, ())))

    def test_a_paper_in_which_one_state_gives_the_name(self):
        custom = Custom([Take("ff", Dead("ff")), Free("ff")], [Free()])
        table = table_of(Scope(custom, also=("ff",)))
        self.assertIsNone(elder_fault(custom, "ff", "s", NeverAlike(table, ())))
        self.assertEqual(elder_fault(custom, "ff", "d", NeverAlike(table, ())), "again")
        housed = Custom([Free()], [Free()], house=[("given", "f")])
        table = table_of(Scope(housed, also=("m",), houses=True))
        self.assertEqual(elder_fault(housed, "m", "d", NeverAlike(table, ()), full=True), "again")
        barred = Custom([Free("f")], [Free("m.0")], house=[("given", "m")])
        table = table_of(Scope(barred, also=("m",), houses=True))
        self.assertIsNone(elder_fault(barred, "m", "d", NeverAlike(table, ()), full=True))
        self.assertEqual(elder_fault(barred, "m", "s", NeverAlike(table, ()), full=True), "again")

    def test_by_chance_against_records(self):
        rng = random.Random(51)
        found = {Family: 0, NeverAlike: 0}
        for _ in range(120):
            custom = chance_custom(rng)
            way = rng.choice(["f", "m", "ff", "fm", "mf", "mm"])
            full = len(way) == 1 and rng.random() < 0.5
            kind = rng.choice("sd")
            try:
                told = self.ask(custom, way, kind, full)
            except TooWide:
                continue
            found[told] += 1
            for _ in range(5):
                record = chance_record(rng, custom, rng.randint(5, 20), pool=rng.choice([2, 5, 40]))
                self.hold_record(custom, way, kind, full, record, told)
        self.assertGreater(found[Family], 40)
        self.assertGreater(found[NeverAlike], 1)

    def hold_record(self, custom, way, kind, full, record, told):
        for other in record.born:
            one = record.elder_of(other, way)
            if record.kind_of(other) == kind and one is not None:
                naming = Naming(custom, record.until(record.row_of(other) + 1))
                can = kinship(record, one, other, way, full, naming)
                self.assertTrue(told is Family or not can)
                self.assertEqual(elder_fault(custom, way, kind, Family(record, one, other), full=full) is None, can)
