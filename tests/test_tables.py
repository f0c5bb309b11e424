"""Tables [5.6], [5.7] and whether they are closed."""

import random

from namesakes.clauses import Dead, Free, Never, Number, Take, Unborne
from namesakes.closing import is_closed, leaving_step
from namesakes.customs import Custom
from namesakes.errors import BadTable, TooWide
from namesakes.scopes import Scope
from namesakes.states import CoupleState, PersonState
from namesakes.steps import Step, following_steps, founder_steps, wedding_steps
from namesakes.tables import MOST_STATES, Table, table_of
from tests.checks import Checks
from tests.families import ODD_THINGS, AlwaysEqual
from tests.test_steps import chance_scope, key

FREE = [Free()]
PLAIN = Custom(FREE, FREE)
SMALL = Custom([Take("ff", Dead("ff"), Unborne()), Free("ff")], FREE)


class Marked(Scope):
    """Nothing but marks: a table of it has (sons + 1) * (daughters + 1) - 1 states."""

    def __init__(self, sons, daughters):
        Scope.__init__(self, PLAIN)
        self.marks = {"s": tuple(range(sons)), "d": tuple(range(daughters))}

    def first_marks(self, kind):
        return self.marks[kind]


def closure(scope):
    """What steps lead to from nothing, gone through plainly."""
    found = {}
    waiting = [step.results[0] for step in founder_steps(scope)]
    while waiting:
        state = waiting.pop()
        if key(state) in found:
            continue
        found[key(state)] = state
        steps = list(following_steps(scope, state))
        if isinstance(state, PersonState):
            for other in list(found.values()):
                if isinstance(other, PersonState) and other.kind != state.kind:
                    steps += list(wedding_steps(scope, *((state, other) if state.kind == "s" else (other, state))))
        waiting += [result for step in steps for result in step.results]
        if len(found) > 1000:
            return None
    return list(found.values())


def small_scopes(many, seed):
    """Scopes by chance with tables of at most some hundred states."""
    rng = random.Random(seed)
    found = []
    while len(found) < many:
        scope = chance_scope(rng)
        states = closure(scope)
        if states is not None and len(states) < 300:
            found.append((scope, states))
    return found


class TableTest(Checks):
    def setUp(self):
        self.scope = Scope(SMALL)
        self.son = PersonState("s", (0, None), (None,))
        self.other_son = PersonState("s", (0, 1), ("dead",))
        self.daughter = PersonState("d", (), ())
        self.couple = CoupleState((0, None), (None,), 0, 0, ())
        self.all = [self.couple, self.son, self.daughter, self.other_son]

    def test_attributes(self):
        table = Table(self.scope, self.all)
        self.assertIs(table.scope, self.scope)
        self.assertEqual(table.persons, (self.son, self.daughter, self.other_son))
        self.assertEqual(table.couples, (self.couple,))
        self.assertEqual(table.states, table.persons + table.couples)
        self.assertEqual((len(table), tuple(table)), (4, table.states))
        empty = Table(self.scope, ())
        self.assertEqual((len(empty), empty.states, empty.persons, empty.couples), (0, (), (), ()))

    def test_wrong_ones_in_order(self):
        for thing in ODD_THINGS + (PLAIN, Scope, AlwaysEqual()):
            self.refused(BadTable, (0, "scope"), Table, thing, None)
        for states in (None, True, 5, "ab", {0: 1}, {0}, iter([]), self.son, Table(self.scope, [])):
            self.refused(BadTable, (0, "states"), Table, self.scope, states)
        for thing in ODD_THINGS + (self.scope, AlwaysEqual(), Step(("comes", "d"), (), (self.daughter,)), PersonState):
            self.refused(BadTable, (0, "state"), Table, self.scope, [thing, PersonState("d", (0,), ())])
            self.refused(BadTable, (1, "state"), Table, self.scope, (self.son, thing, self.son))
        for state in (PersonState("s", (0,), (None,)), PersonState("s", (0, None, 1), (None,)), PersonState("s", (0, None), ()),
                      PersonState("s", (0, None), (None, None)), PersonState("d", (0,), ()), PersonState("d", (), (None,)),
                      CoupleState((0,), (None,), 0, 0, ()), CoupleState((0, None, None), (None,), 0, 0, ()),
                      CoupleState((0, None), (), 0, 0, ()), CoupleState((0, None), (None, None), 0, 0, ())):
            self.refused(BadTable, (1, "places"), Table, self.scope, [self.son, state, state, None])
        for index, state in enumerate(self.all):
            self.refused(BadTable, (4, "double"), Table, self.scope, self.all + [state, None])
        same = PersonState("s", [0, None], [None])
        self.refused(BadTable, (1, "double"), Table, self.scope, [self.son, same])

    def test_states_that_differ_in_one_thing_are_no_doubles(self):
        states = [PersonState("s", (0, 0), ("dead",), mark) for mark in range(3)]
        states += [CoupleState((0, 0), ("dead",), sons, daughters, borne, marks) for sons in (0, 1) for daughters in (0, 1)
                   for borne in ((), ((0, 1),), ((0, 2),)) for marks in ((0, 0), (1, 0), (0, 1))]
        self.assertEqual(len(Table(self.scope, states)), 39)

    def test_what_is_in_it(self):
        table = Table(self.scope, self.all[:3])
        for state in self.all[:3]:
            self.assertIn(state, table)
        self.assertIn(PersonState("s", (0, None), (None,)), table)
        for thing in ODD_THINGS + (self.other_son, PersonState("s", (0, None), (None,), 1), AlwaysEqual(), self.scope,
                                   CoupleState((0, None), (None,), 0, 0, (), (0, 1)), key(self.son), [], {}):
            self.assertIs(thing in table, False)

    def test_both_and_either_in_order(self):
        one = Table(self.scope, [self.couple, self.other_son, self.son])
        other = Table(Scope(SMALL), [self.daughter, self.son, self.couple])
        self.assertEqual((one | other).states, (self.other_son, self.son, self.daughter, self.couple))
        self.assertEqual((other | one).states, (self.daughter, self.son, self.other_son, self.couple))
        self.assertEqual((one & other).states, (self.other_son, self.son, self.couple)[1:])
        self.assertEqual((other & one).states, (self.son, self.couple))
        self.assertIs((one | other).scope, self.scope)
        self.assertEqual((one | one, one & one), (one, one))
        swapped = Table(self.scope, [self.son, self.other_son])
        self.assertEqual(((one & swapped).states, (swapped & one).states), ((self.other_son, self.son), (self.son, self.other_son)))
        for scope in (Scope(SMALL, SMALL), Scope(SMALL, also=("ff",)), Scope(SMALL, followed=True), Scope(SMALL.mirrored())):
            unlike = Table(scope, [])
            for call in (lambda: one | unlike, lambda: unlike | one, lambda: one & unlike, lambda: unlike & one):
                self.refused(BadTable, (0, "scope"), call)

    def test_is_within(self):
        table = Table(self.scope, self.all)
        empty = Table(self.scope, [])
        for state in self.all:
            self.assertIs(Table(self.scope, [state]).is_within(table), True)
            self.assertIs(table.is_within(table.without(state)), False)
            self.assertIs(table.without(state).is_within(table), True)
        self.assertIs(empty.is_within(empty), True)
        self.assertIs(Table(Scope(SMALL, also=("ff",)), self.all).is_within(table), True)

    def test_without(self):
        table = Table(self.scope, self.all)
        self.assertEqual(table.without(self.daughter).states, (self.son, self.other_son, self.couple))
        self.assertEqual(table.without(CoupleState([0, None], [None], 0, 0, [])).states, table.persons)
        for thing in (PersonState("s", (0, 0), ("dead",)), None, AlwaysEqual(), 0):
            self.assertEqual(table.without(thing).states, table.states)
            self.assertIsNot(table.without(thing), table)
        self.assertEqual(table.without(self.son).without(self.son), Table(self.scope, self.all[:1] + self.all[2:]))
        self.assertEqual(len(table), 4)

    def test_equality(self):
        table = Table(self.scope, self.all)
        self.assertEqual(table, Table(Scope(SMALL), tuple(reversed(self.all))))
        self.unlike_all(table, table.without(self.son), Table(Scope(SMALL, also=("ff",)), self.all), None, tuple(self.all),
                        Table(self.scope, self.all + [PersonState("s", (0, 0), ("dead",))]), AlwaysUnlike(self.scope, self.all))
        self.unlike_all(table.without(self.son), table.without(self.daughter))

    def test_nothing_is_kept(self):
        states = list(self.all)
        table = Table(self.scope, states)
        states.pop()
        self.assertEqual(len(table), 4)
        self.assertIn(self.other_son, table)


class AlwaysUnlike(Table):
    """Of another class."""


class TableOfTest(Checks):
    def test_the_constant(self):
        self.assertEqual(MOST_STATES, 1000)

    def test_small_ones_by_hand(self):
        table = table_of(Scope(PLAIN))
        wanted = [PersonState("s", (), ()), PersonState("d", (), ()), CoupleState((), (), 0, 0, ())]
        self.assertEqual(table, Table(Scope(PLAIN), wanted))
        custom = Custom([Take("f", Number(2)), Free("living")], [Free()])
        table = table_of(Scope(custom))
        # Daughters can have the father's name, too, and the second son has it always.
        couples = [CoupleState((0,), (), sons, 0, ((0, mark),)) for sons in range(4) for mark in range(3) if mark or sons < 2]
        self.assertEqual(table, Table(Scope(custom), [PersonState("s", (0,), ()), PersonState("d", (), ())] + couples))

    def test_followed_names(self):
        scope = Scope(PLAIN, followed=True)
        wanted = [PersonState("s", (), ()), PersonState("d", (), ())] + [CoupleState((), (), 0, 0, ((0, n),)) for n in range(3)]
        self.assertEqual(table_of(scope), Table(scope, wanted))

    def test_by_chance_it_is_what_steps_lead_to(self):
        for scope, states in small_scopes(40, 31):
            table = table_of(scope)
            self.assertEqual(table, Table(scope, states))
            self.assertIs(is_closed(table), True)
            self.assertIsNone(leaving_step(table))

    def test_a_thousand_states_and_one_more(self):
        self.assertEqual(len(table_of(Marked(76, 12))), 1000)
        self.assertEqual(len(table_of(Marked(12, 76))), 1000)
        self.refused(TooWide, ("states",), table_of, Marked(1, 500))
        self.refused(TooWide, ("states",), table_of, Marked(500, 1))
        self.refused(TooWide, ("states",), table_of, Marked(1000, 1000))
        big = Table(Marked(1, 500), table_of(Marked(1, 400)).states)
        self.assertEqual(len(big), 801)
        self.assertFalse(is_closed(big))

    def test_too_many_names_and_lives(self):
        custom = Custom([Take("fff", Dead("fm")), Take("mm"), Free()], [Take("mmm", Never()), Free()])
        self.refused(TooWide, ("states",), table_of, Scope(custom))

    def test_other_methods_and_marks(self):
        class Sided(Scope):
            def custom_for(self, couple, kind):
                return self.customs[couple.marks[0] // 5]

            def first_marks(self, kind):
                return (0, 5) if kind == "s" else (3,)

            def child_mark(self, couple, kind):
                return couple.marks[0] if kind == "s" else 4

        scope = Sided(Custom([Take("f"), Free()], FREE), Custom(FREE, [Take("f"), Free("f")]))
        table = table_of(scope)
        sons = [PersonState("s", (0,), (), mark) for mark in (0, 5)]
        daughters = [PersonState("d", (), (), mark) for mark in (3, 4)]
        couples = [CoupleState((0,), (), 0, 0, (), (his, hers)) for his in (0, 5) for hers in (3, 4)]
        self.assertEqual(table, Table(scope, sons + daughters + couples))
        self.assertIs(is_closed(table), True)


class ClosingTest(Checks):
    def leaving_steps(self, table):
        """All steps that lead out of the table, gone through plainly."""
        steps = list(founder_steps(table.scope))
        for father in table.persons:
            for mother in table.persons:
                if father.kind == "s" and mother.kind == "d":
                    steps += list(wedding_steps(table.scope, father, mother))
        for state in table.states:
            steps += list(following_steps(table.scope, state))
        return [step for step in steps if not all(result in table for result in step.results)]

    def test_without_any_state_it_is_not_closed(self):
        table = table_of(Scope(SMALL))
        for state in table:
            smaller = table.without(state)
            step = leaving_step(smaller)
            self.assertIn(step, self.leaving_steps(smaller))
            self.assertIn(state, step.results)
            self.assertIs(is_closed(smaller), False)

    def test_each_sort_of_step_is_asked(self):
        table = table_of(Scope(SMALL))
        for state, words in ((PersonState("s", (0, None), (None,)), {"comes"}), (CoupleState((0, None), (None,), 0, 0, ()), {"weds"}),
                             (PersonState("s", (0, 1), ("dead",)), {"elder", "mate"})):
            self.assertIn(leaving_step(table.without(state)).deed[0], words)
        couples = [couple for couple in table.couples if couple.names[1] is None]
        only = Table(table.scope, [PersonState("s", (0, None), (None,)), PersonState("d", (), ())] + couples)
        self.assertEqual({step.deed[0] for step in self.leaving_steps(only)}, {"born"})
        self.assertEqual(leaving_step(only).deed[:2], ("born", "s"))

    def test_nothing_and_more_than_what_can_come(self):
        for followed in (False, True):
            scope = Scope(Custom([Take("f", Never()), Free("living")], FREE), followed=followed)
            self.assertEqual(leaving_step(Table(scope, [])).deed, ("comes", "s"))
            table = table_of(scope)
            more = Table(scope, table.states + (PersonState("s", (0,), (), 7),))
            self.assertIs(is_closed(more), False)
            marked = [PersonState("s", (0,), (), 7)]
            marked += [CoupleState(couple.names, couple.lives, couple.sons, couple.daughters, couple.borne, (7, 0))
                       for couple in table.couples]
            self.assertIs(is_closed(Table(scope, table.states + tuple(marked))), True)

    def test_by_chance_against_all_steps(self):
        rng = random.Random(32)
        for scope, states in small_scopes(12, 33):
            if len(states) > 80:
                continue
            for _ in range(4):
                some = Table(scope, [state for state in states if rng.random() < 0.9])
                step = leaving_step(some)
                steps = self.leaving_steps(some)
                self.assertEqual(step is None, not steps)
                self.assertIs(is_closed(some), not steps)
                if steps:
                    self.assertIn(step, steps)

    def test_a_table_of_another_scope(self):
        one, other = Scope(Custom([Take("f"), Free()], FREE)), Scope(Custom([Take("f"), Free("f")], FREE))
        self.assertEqual(table_of(one).states, table_of(other).states)
        self.assertTrue(is_closed(Table(one, table_of(other).states)))
        never = Scope(Custom([Take("f", Never()), Free()], FREE))
        self.assertFalse(is_closed(Table(never, table_of(one).states)))
