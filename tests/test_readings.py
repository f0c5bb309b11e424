"""States of a record at its end [5.10], [5.8]."""

import random

from namesakes.clauses import Dead, Free, Never, Number, Take, Unborne
from namesakes.customs import Custom
from namesakes.errors import BadScope, NoCouple, NoPerson, NotUnwed, TooWide
from namesakes.naming import Naming
from namesakes.readings import couple_state_of, person_state_of, states_in
from namesakes.records import Record
from namesakes.scopes import Scope
from namesakes.states import CoupleState, PersonState
from namesakes.tables import table_of
from tests.checks import Checks
from tests.families import ODD_THINGS, AlwaysEqual, Family, chance_custom, chance_record
from tests.test_steps import Watched

FREE = [Free()]
ROWS = [
    ("comes", "a", "s", 1, ()), ("comes", "b", "d", 2, ()), ("weds", "a", "b"), ("born", "a", "b", "s", "c", 3),
    ("born", "a", "b", "d", "e", 1), ("comes", "g", "d", 3, ()), ("weds", "c", "g"), ("dies", "a"),
]


class ByHandTest(Checks):
    def setUp(self):
        custom = Custom([Take("ff", Dead("ff"), Unborne()), Free("ff")], [Take("mf", Number(2)), Free()])
        self.scope = Scope(custom, also=("mm",))
        self.naming = Naming(custom, Record(0, ROWS))

    def test_what_is_read(self):
        self.assertEqual([self.scope.places(kind) for kind in "sd"], [("", "f"), ("", "f", "m")])
        self.assertEqual([self.scope.life_ways(kind) for kind in "sd"], [("f",), ("m",)])

    def test_persons_and_couples(self):
        self.assertEqual(person_state_of(self.scope, self.naming, "b"), PersonState("d", (0, None, None), (None,)))
        self.assertEqual(person_state_of(self.scope, self.naming, "e"), PersonState("d", (0, 0, 1), ("alive",)))
        couple = CoupleState((0, 1, 0, None, None), ("dead", None), 0, 0, ((1, 0),))
        self.assertEqual(couple_state_of(self.scope, self.naming, "c", "g"), couple)
        told = states_in(self.scope, self.naming)
        self.assertEqual(told, ((("b",), PersonState("d", (0, None, None), (None,))), (("e",), PersonState("d", (0, 0, 1), ("alive",))), (("c", "g"), couple)))
        self.assertEqual({type(told), type(told[0]), type(told[0][0])}, {tuple})

    def test_children_of_a_couple(self):
        rows = ROWS + [("born", "c", "g", "s", "h", 9), ("born", "c", "g", "d", "k", 7), ("born", "c", "g", "d", "l", 7)]
        for more, sons, daughters, mark in (([], 0, 2, 2), ([("dies", "h")], 0, 2, 1), ([("dies", "k"), ("dies", "l")], 0, 2, 2),
                                            ([("born", "c", "g", "d", label, 8) for label in "nopq"], 0, 3, 2)):
            naming = Naming(self.naming.custom, Record(0, rows + more))
            couple = couple_state_of(self.scope, naming, "c", "g")
            self.assertEqual((couple.sons, couple.daughters, couple.borne), (sons, daughters, ((1, mark),)))

    def test_unwed_wed_widowed_and_dead(self):
        rows = ROWS[:3]
        custom = self.naming.custom
        naming = Naming(custom, Record(0, rows[:2]))
        self.assertEqual([labels for labels, _ in states_in(self.scope, naming)], [("a",), ("b",)])
        self.refused(NoCouple, ("a", "b"), couple_state_of, self.scope, naming, "a", "b")
        naming = Naming(custom, Record(0, rows))
        for label in "ab":
            self.refused(NotUnwed, (label,), person_state_of, self.scope, naming, label)
        self.assertEqual([labels for labels, _ in states_in(self.scope, naming)], [("a", "b")])
        naming = Naming(custom, Record(0, rows + [("dies", "a")]))
        self.refused(NotUnwed, ("a",), person_state_of, self.scope, naming, "a")
        self.assertEqual(person_state_of(self.scope, naming, "b").kind, "d")
        self.refused(NoCouple, ("a", "b"), couple_state_of, self.scope, naming, "a", "b")
        self.assertEqual(states_in(self.scope, Naming(custom, Record(0))), ())

    def test_house_names_behind_a_wedding(self):
        custom = Custom([Take("m.0", Never()), Free()], FREE, house=[("f", 0)], daughter_weds=[0])
        scope = Scope(custom, houses=True)
        rows = [("comes", "a", "s", 1, (5,)), ("comes", "b", "d", 5, (6,)), ("weds", "a", "b")]
        naming = Naming(custom, Record(1, rows))
        self.assertEqual(couple_state_of(scope, naming, "a", "b"), CoupleState((0, 0), (), 0, 0, ((0, 0),)))
        naming = Naming(custom, Record(1, rows + [("dies", "a")]))
        self.assertEqual(naming.house_of("b"), (5,))
        self.assertEqual(person_state_of(scope, naming, "b"), PersonState("d", (0,), ()))

    def test_errors(self):
        for thing in ODD_THINGS + ("x", AlwaysEqual()):
            self.refused(NoPerson, (thing,), person_state_of, self.scope, self.naming, thing)
            self.refused(NoPerson, (thing,), couple_state_of, self.scope, self.naming, thing, "b")
            self.refused(NoPerson, (thing,), couple_state_of, self.scope, self.naming, "c", thing)
        self.refused(NoPerson, ("x",), couple_state_of, self.scope, self.naming, "x", "y")
        for pair in (("a", "b"), ("g", "c"), ("c", "b"), ("c", "c"), ("e", "a")):
            self.refused(NoCouple, pair, couple_state_of, self.scope, self.naming, *pair)
        for label in "acg":
            self.refused(NotUnwed, (label,), person_state_of, self.scope, self.naming, label)

    def test_scopes_that_follow_a_name(self):
        scope = Scope(self.naming.custom, followed=True)
        self.refused(BadScope, ("followed",), person_state_of, scope, self.naming, "x")
        self.refused(BadScope, ("followed",), couple_state_of, scope, self.naming, "x", "y")
        self.refused(BadScope, ("followed",), states_in, scope, self.naming)
        self.refused(BadScope, ("followed",), states_in, scope, Naming(self.naming.custom, Record(0)))


class ChanceTest(Checks):
    def test_against_a_plain_reading(self):
        rng = random.Random(510)
        couples = 0
        for _ in range(120):
            custom = chance_custom(rng, longest=rng.choice([2, 2, 3]))
            try:
                scope = Scope(custom, also=rng.choice([(), ("f",), ("mf",)]), tracked=rng.choice([(), ("m",)]), houses=rng.random() < 0.3)
            except TooWide:
                continue
            record = chance_record(rng, custom, 25)
            naming = Naming(custom, record)
            watched = Watched(scope, Family(custom, record.rows), record)
            self.assertEqual(dict(states_in(scope, naming)), watched.all_states())
            self.assertEqual([labels for labels, _ in states_in(scope, naming)],
                             [(label,) for label in record.living if record.mate_of(label) is None] + list(record.couples))
            couples += len(record.couples)
        self.assertGreater(couples, 50)

    def test_what_comes_is_in_the_table(self):
        rng = random.Random(511)
        for _ in range(40):
            custom = chance_custom(rng)
            try:
                scope = Scope(custom)
                table = table_of(scope)
            except TooWide:
                continue
            for _ in range(5):
                naming = Naming(custom, chance_record(rng, custom, 20, pool=rng.choice([2, 5, 50])))
                for _, state in states_in(scope, naming):
                    self.assertIn(state, table)

    def test_namings_by_another_custom(self):
        # The scope reads; by which custom of its width the names came does not matter.
        custom = Custom([Take("f"), Free()], FREE)
        naming = Naming(custom, Record(0, ROWS))
        scope = Scope(Custom([Take("ff"), Free()], FREE))
        self.assertEqual(couple_state_of(scope, naming, "c", "g"), CoupleState((0, 0), (), 0, 0, ()))
