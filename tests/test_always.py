"""Children who always have an elder's name [6.1], [6.2], [6.9]."""

import random

from namesakes.always import always_fault, always_named
from namesakes.clauses import Alive, Dead, Free, Never, Number, Take, Unborne
from namesakes.customs import Custom
from namesakes.errors import BadAsked, TooWide
from namesakes.families import Always, Family
from namesakes.naming import Naming
from namesakes.records import Record
from namesakes.scopes import Scope
from namesakes.states import CoupleState, PersonState
from namesakes.steps import case_of, following_steps
from namesakes.tables import Table, table_of
from tests.checks import Checks
from tests.families import ODD_THINGS, AlwaysEqual, chance_custom, chance_record
from tests.test_steps import key

FREE = [Free()]


def is_asked(record, other, kind, way, number, life):
    """Whether the birth of this person is asked, read off plainly."""
    one = record.elder_of(other, way)
    if record.kind_of(other) != kind or one is None:
        return False
    siblings = [row for row in record.rows[:record.row_of(other)] if row[0] == "born" and row[3] == kind]
    born = [row for row in siblings if row[1:3] == (record.father_of(other), record.mother_of(other))]
    dead = ("dies", one) in record.rows[:record.row_of(other)]
    return (number is None or min(4, len(born) + 1) == number) and (life is None or dead == (life == "dead"))


def counted_by_hand(scope, kind):
    """All pairs of [6.9], gone through plainly."""
    waiting = [(state, 0) for state in table_of(scope).couples if state.is_new]
    found = {}
    while waiting:
        state, born = waiting.pop()
        if (key(state), born) not in found:
            found[key(state), born] = (state, born)
            for step in following_steps(scope, state):
                if step.deed[0] != "mate":
                    more = born + 1 if step.deed[:2] == ("born", kind) else born
                    waiting.append((step.results[0], min(3, more)))
    return found


class AlwaysTest(Checks):
    def ask(self, custom, kind, way, number=None, life=None):
        """Ask, hold what is found against the judge and against the record, and return its class."""
        result = always_named(custom, kind, way, number=number, life=life)
        self.assertIsNone(always_fault(custom, kind, way, result, number=number, life=life))
        if isinstance(result, Family):
            record, one, other = result.record, result.one, result.other
            naming = Naming(custom, record)
            self.assertEqual(record.elder_of(other, way), one)
            self.assertTrue(is_asked(record, other, kind, way, number, life))
            self.assertNotEqual(naming.given_of(one), naming.given_of(other))
        else:
            scope = Scope(custom, also=(way,))
            self.assertEqual(result.table, table_of(scope))
            self.assertIs(type(result.counted), tuple)
            wanted = counted_by_hand(scope, kind)
            self.assertEqual(sorted(map(repr, [(key(state), born) for state, born in result.counted])), sorted(map(repr, wanted)))
        return type(result)

    def test_customs_by_which_it_is_so(self):
        plain = Custom([Take("f"), Free()], [Take("mm"), Free()])
        for kind, way, told in (("s", "f", Always), ("s", "ff", Always), ("d", "mm", Always), ("d", "m", Family), ("s", "m", Family),
                                ("s", "fm", Family), ("d", "f", Family), ("s", "mf", Family)):
            self.assertIs(self.ask(plain, kind, way), told, (kind, way))
        # All men of a line have one name, so a father's father's father's is the father's father's.
        self.assertIs(self.ask(Custom([Take("f"), Free()], [Take("ff"), Free()]), "d", "ff"), Always)
        self.assertIs(self.ask(Custom([Take("f"), Free()], [Take("ff"), Free()]), "d", "f"), Family)
        self.assertIs(self.ask(Custom([Take("ff"), Free()], FREE), "s", "ff"), Always)

    def test_numbers(self):
        for n in (1, 2, 3, 4):
            custom = Custom([Take("m", Number(n)), Free("m")], [Take("f", Number(n)), Free("ever")])
            for number in (None, 1, 2, 3, 4):
                self.assertIs(self.ask(custom, "s", "m", number), Always if number == n else Family)
                self.assertIs(self.ask(custom, "d", "f", number), Always if number == n else Family)
                self.assertIs(self.ask(custom, "d", "m", number), Family)
        once = Custom([Take("f", Never()), Free("ever")], FREE)
        self.assertIs(self.ask(once, "s", "f"), Family)
        # A daughter can have had the father's name ahead.
        self.assertIs(self.ask(once, "s", "f", 1), Family)
        once = Custom([Take("f", Never()), Free("ever")], [Free("f")])
        self.assertEqual([self.ask(once, "s", "f", number) for number in (1, 2, 3, 4)], [Always] + [Family] * 3)

    def test_numbers_that_the_custom_does_not_read(self):
        custom = Custom([Take("f", Unborne()), Free("living")], [Free("f")])
        self.assertEqual([self.ask(custom, "s", "f", number) for number in (None, 1, 2, 3, 4)], [Family, Always] + [Family] * 3)
        self.assertEqual([self.ask(custom, "d", "f", number) for number in (1, 4)], [Family, Family])

    def test_lives(self):
        custom = Custom([Take("ff", Dead("ff")), Free("ff")], [Take("mm", Alive("mm")), Free()])
        for kind, way, life, told in (("s", "ff", None, Family), ("s", "ff", "dead", Always), ("s", "ff", "alive", Family),
                                      ("d", "mm", "alive", Always), ("d", "mm", "dead", Family), ("d", "mm", None, Family)):
            self.assertIs(self.ask(custom, kind, way, life=life), told)
        both = Custom([Take("ff", Dead("ff"), Number(2)), Free("ff")], FREE)
        self.assertIs(self.ask(both, "s", "ff", 2, "dead"), Always)
        self.assertIs(self.ask(both, "s", "ff", 2, "alive"), Family)
        self.assertIs(self.ask(both, "s", "ff", 3, "dead"), Family)

    def test_no_birth_is_asked_at_all(self):
        free = Custom([Free("f", "m")], FREE)
        for kind in "sd":
            for way in "fm":
                self.assertIs(self.ask(free, kind, way, life="dead"), Always)
                self.assertIs(self.ask(free, kind, way, 3, "dead"), Always)
                self.assertIs(self.ask(free, kind, way, life="alive"), Family)
        # A father's father can be dead.
        self.assertIs(self.ask(free, "s", "ff", life="dead"), Family)

    def test_what_is_asked_goes_first(self):
        wide = Custom([Take("fff"), Take("ffm"), Take("fmf"), Free()], FREE)

        def refused(word, kind, way, **named):
            self.refused(BadAsked, (word,), always_named, wide, kind, way, **named)
            self.refused(BadAsked, (word,), always_fault, wide, kind, way, Always(None, None), **named)

        for kind in ODD_THINGS + ("f", "sd", AlwaysEqual()):
            refused("kind", kind, None, number=9, life=9)
        for way in ODD_THINGS + ("fff", "x", "f.0", AlwaysEqual()):
            refused("way", "s", way, number=9, life=9)
        for number in (True, False, 0, 5, -1, "1", 1.0, (), [], AlwaysEqual()):
            refused("number", "s", "ff", number=number, life=9)
        for life in (True, False, 0, 1, "", "Alive", "living", b"dead", (), [], AlwaysEqual()):
            refused("life", "d", "m", number=4, life=life)
        for call in (always_named, lambda *asked: always_fault(*asked, Always(None, None))):
            self.refused(TooWide, ("names",), call, wide, "s", "f")
        states = Custom([Take("fff", Dead("fm")), Take("mm"), Free()], [Take("mmm", Never()), Free()])
        self.refused(TooWide, ("states",), always_named, states, "s", "f")
        self.assertEqual(always_fault(states, "s", "f", Family(Record(0), "a", "b")), "persons")

    def test_words_against_a_family(self):
        custom = Custom([Take("ff", Dead("ff")), Free("f")], FREE)
        rows = [("comes", "a", "s", 1, ()), ("comes", "b", "d", 2, ()), ("weds", "a", "b"), ("born", "a", "b", "s", "c", 3),
                ("comes", "e", "d", 4, ()), ("weds", "c", "e"), ("born", "c", "e", "d", "g", 1), ("born", "c", "e", "s", "h", 5),
                ("dies", "a"), ("born", "c", "e", "s", "i", 7), ("born", "c", "e", "d", "j", 8)]
        rows += [("born", "c", "e", "d", label, 9) for label in ("k", "l", "m")]
        record = Record(0, rows)

        def fault(kind, way, one, other, number=None, life=None, record=record):
            return always_fault(custom, kind, way, Family(record, one, other), number=number, life=life)

        for kind, way, one, other, number, life, word in (
            ("s", "ff", "a", "h", None, None, None), ("s", "ff", "a", "h", 1, "alive", None), ("s", "ff", "a", "i", 2, "dead", "names"),
            ("d", "ff", "a", "j", 2, "dead", None), ("d", "f", "c", "g", 1, "alive", None), ("d", "ff", "a", "g", None, None, "names"),
            ("s", "ff", "a", "x", 1, "alive", "persons"), ("s", "ff", "x", "h", 1, "alive", "persons"),
            ("s", "ff", "c", "h", 1, "alive", "elder"), ("d", "f", "h", "c", 1, "alive", "elder"), ("s", "f", "b", "a", None, None, "elder"),
            ("d", "ff", "a", "h", 2, "dead", "kind"), ("s", "ff", "a", "h", 2, "dead", "number"), ("s", "ff", "a", "h", 1, "dead", "life"),
            ("d", "ff", "a", "j", None, "alive", "life"), ("d", "ff", "a", "l", 4, "dead", None), ("d", "ff", "a", "m", 4, "dead", None),
            ("d", "ff", "a", "m", 3, "dead", "number"), ("d", "ff", "a", "k", 3, "dead", None), ("d", "ff", "a", "k", 4, "dead", "number"),
            ("d", "ff", "a", "g", None, "dead", "life"),
        ):
            self.assertEqual(fault(kind, way, one, other, number, life), word, (kind, way, one, other, number, life))
        for thing in ODD_THINGS + (AlwaysEqual(),):
            self.assertEqual(fault("s", "ff", thing, "h"), "persons")
            self.assertEqual(fault("s", "ff", "a", thing), "persons")
        barred = Record(0, rows[:8] + [("born", "c", "e", "s", "z", 3)])
        self.assertEqual(fault("s", "ff", "x", "h", record=barred), "record")
        self.assertEqual(fault("s", "ff", "a", "h", record=Record(2)), "record")

    def test_words_against_a_paper(self):
        custom = Custom([Take("f", Number(2)), Free("f")], [Free()])
        result = always_named(custom, "s", "f", number=2)
        table, counted = result.table, result.counted

        def fault(counted, kind="s", way="f", table=table, number=2, life=None):
            return always_fault(custom, kind, way, Always(table, counted), number=number, life=life)

        self.assertIsNone(fault(counted))
        self.assertIsNone(fault(tuple(reversed(counted))))
        self.assertIsNone(fault(counted + counted))
        for state in table:
            self.assertEqual(fault(counted, table=table.without(state)), "table")
        for wrong in (Scope(custom, also=("m",)), Scope(custom, also=("f", "ff")), Scope(custom, custom), Scope(custom, followed=True),
                      Scope(Custom([Take("f", Number(2)), Free()], [Free()]))):
            self.assertEqual(fault(counted, table=table_of(wrong)), "table")
        # Each entry is needed, a new couple with 0 as such.
        for at, (state, born) in enumerate(counted):
            word = "new" if born == 0 and state.is_new else "step"
            self.assertEqual(fault(counted[:at] + counted[at + 1:]), word)
        self.assertEqual(fault(()), "new")
        for number in (None, 1, 3, 4):
            self.assertEqual(fault(counted, number=number), "unlike")
        self.assertEqual(fault(counted, number=2, life="alive"), None)
        self.assertEqual(fault(counted, number=1, life="dead"), None)
        # For daughters other births are counted.
        self.assertEqual(fault(counted, kind="d"), "step")

    def test_entries_of_no_state_are_left_out(self):
        custom = Custom([Take("f", Number(2)), Free("f")], [Free()])
        result = always_named(custom, "s", "f", number=2)
        never = CoupleState((0,), (), 3, 0, (), (0, 9))
        for more in (((never, 0),), ((never, 1), (CoupleState((0, 1), (), 0, 0, ()), 2))):
            self.assertIsNone(always_fault(custom, "s", "f", Always(result.table, more + result.counted), number=2))
            self.assertIsNone(always_fault(custom, "s", "f", Always(result.table, result.counted + more), number=2))

    def test_right_papers_that_it_does_not_return(self):
        custom = Custom([Take("f"), Free()], [Take("f"), Free()])
        result = always_named(custom, "d", "f")
        self.assertEqual(sorted(born for _, born in result.counted), [0, 1, 2, 3])
        # More entries than are reached, and a table of more states than can come.
        for scope in (Scope(custom), Scope(custom, also=["f", "f"])):
            small = table_of(scope)
            table = Table(scope, [CoupleState((0,), (), 0, 0, (), (0, 3)), PersonState("d", (), (), 3)] + list(small.states)[::-1])
            counted = [(couple, born) for couple in table.couples for born in range(4)]
            self.assertIsNone(always_fault(custom, "d", "f", Always(table, tuple(counted))))
            self.assertEqual(always_fault(custom, "d", "f", Always(table, result.counted)), "new")
        two = Custom([Take("f", Number(1)), Free()], [Free()])
        small = table_of(Scope(two))
        counted = tuple((couple, born) for couple in small.couples for born in range(4))
        # An entry that never comes can still be held against the paper.
        self.assertEqual(always_fault(two, "s", "f", Always(small, counted), number=1), "unlike")
        self.assertIs(self.ask(two, "s", "f", 1), Always)

    def test_by_chance_against_records(self):
        rng = random.Random(52)
        found = {Family: 0, Always: 0}
        for _ in range(120):
            custom = chance_custom(rng)
            asked = (rng.choice("sd"), rng.choice(["f", "m", "ff", "fm", "mf", "mm"]),
                     rng.choice([None, None, 1, 2, 3, 4]), rng.choice([None, None, "alive", "dead"]))
            try:
                told = self.ask(custom, *asked)
            except TooWide:
                continue
            found[told] += 1
            for _ in range(5):
                record = chance_record(rng, custom, rng.randint(5, 20), pool=rng.choice([2, 5, 40]))
                self.hold_record(custom, asked, record, told)
        self.assertGreater(found[Family], 40)
        self.assertGreater(found[Always], 5)

    def hold_record(self, custom, asked, record, told):
        kind, way, number, life = asked
        naming = Naming(custom, record)
        for other in record.born:
            one = record.elder_of(other, way)
            if one is not None:
                unlike = is_asked(record, other, *asked) and naming.given_of(one) != naming.given_of(other)
                self.assertTrue(told is Family or not unlike)
                fault = always_fault(custom, kind, way, Family(record, one, other), number=number, life=life)
                self.assertEqual(fault is None, unlike)

    def test_a_long_way_to_the_birth(self):
        custom = Custom([Take("f", Number(4), Unborne(), Dead("ff")), Take("f", Number(1)), Free("living")], [Free("living", "f")])
        result = always_named(custom, "s", "f", number=4, life="alive")
        self.assertIsInstance(result, Family)
        self.assertIs(self.ask(custom, "s", "f", 4, "alive"), Family)
        self.assertIs(self.ask(custom, "s", "f", 1), Always)

    def test_each_case_is_that_of_the_table(self):
        custom = Custom([Take("f", Number(2)), Free("f")], [Free()])
        result = always_named(custom, "s", "f", number=2)
        for state, born in result.counted:
            self.assertEqual(min(3, case_of(result.table.scope, state, "s").number - 1), born)
