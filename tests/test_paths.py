"""Records that lead to a state, and how they go on [5.8], [5.9]."""

import random

from namesakes.clauses import Alive, Dead, Free, Never, Number, Take, Unborne
from namesakes.customs import Custom
from namesakes.errors import BadPlay, NeverComes, TooWide
from namesakes.kin import kin_weddings
from namesakes.naming import Naming, fits
from namesakes.paths import Told, played_on, record_of
from namesakes.patterns import Pattern
from namesakes.records import Record
from namesakes.scopes import Scope
from namesakes.states import CoupleState, PersonState
from namesakes.steps import following_steps
from namesakes.tables import Table, table_of
from tests.checks import Checks
from tests.families import ODD_THINGS, AlwaysEqual, Family, chance_record
from tests.test_steps import Watched
from tests.test_tables import Marked, closure, small_scopes

FREE = [Free()]
PLAIN = Custom(FREE, FREE)


class Read(Watched):
    """The states at the end of a record; each couple follows this name."""

    def __init__(self, scope, family, record, followed):
        Watched.__init__(self, scope, family, record)
        self.followed = followed

    def followed_name(self, names):
        return self.followed


class SidedFamily(Family):
    """A family in which each person has a mark, and customs go by marks."""

    def __init__(self, scope, rows, marks):
        self.scope = scope
        self.marks = dict(marks)
        Family.__init__(self, scope.customs[0], rows)

    def say(self, row):
        if row[0] == "born":
            couple = CoupleState((), (), 0, 0, (), (self.marks[row[1]], self.marks[row[2]]))
            self.custom = self.scope.custom_for(couple, row[3])
            self.marks[row[4]] = self.scope.child_mark(couple, row[3])
        Family.say(self, row)

    def wed(self, father, mother):
        his, hers = self.told[father][2], self.told[mother][2]
        for label, kind, own, mate in ((father, "s", his, hers), (mother, "d", hers, his)):
            custom = self.scope.wedding_custom(kind, self.marks[label])
            self.told[label][2] = custom.house_at_wedding(kind, own, mate)


class Sided(Scope):
    """Persons of mark 7 are on the side of the last custom; a son is on his father's, a daughter on her mother's."""

    def custom_for(self, couple, kind):
        return self.customs[-1 if couple.marks["sd".index(kind)] == 7 else 0]

    def wedding_custom(self, kind, mark):
        return self.customs[-1 if (mark == 7) == (kind == "s") else 0]

    def first_marks(self, kind):
        return (0, 7)

    def child_mark(self, couple, kind):
        return couple.marks["sd".index(kind)]


SIDED = (
    Sided(Custom([Take("ff", Number(1)), Free("f")], FREE), Custom([Take("ff"), Free()], [Take("f"), Free()])),
    Sided(Custom([Take("f.0", Unborne()), Free("living")], FREE, house=[("f", 0)]),
          Custom(FREE, [Take("m.0", Dead("mm")), Free("f.0")], house=[("given", "m")], son_weds=[0])),
)


class ReadingTest(Checks):
    """What is told of a record holds in it."""

    def hold(self, scope, told, state):
        record = told.record
        self.assertEqual(told.state, state)
        family = self.family(scope, told)
        self.assertEqual(told.givens, tuple((label, family.told[label][0]) for label in record.persons))
        self.assertEqual([label for label, _ in told.marks], list(record.founders))
        couple = isinstance(state, CoupleState)
        followed = told.names[-1] if scope.followed and couple else None
        read = Read(scope, family, record, followed)
        found = read.couple(*told.labels) if couple else read.person(*told.labels)
        if type(scope) is not Scope:
            found.mark = state.mark if not couple else None
            marks = tuple(family.marks[label] for label in told.labels)
            self.assertEqual(state.marks if couple else (state.mark,), marks)
            found = CoupleState(*[found.names, found.lives, found.sons, found.daughters, found.borne], marks) if couple else found
        self.assertEqual(found, state)
        self.assertEqual(told.children, record.children_of(*told.labels) if couple else ())
        names = [name for label in told.labels for name in read.names(label)]
        self.assertEqual(len(told.names), Pattern(state.names).class_count + (1 if scope.followed and couple else 0))
        for entry, name in zip(state.names, names, strict=True):
            self.assertEqual(name, None if entry is None else told.names[entry])
        if scope.followed and couple:
            self.assertTrue(followed is None or followed not in names)
            self.assertEqual(followed is None, state.borne[-1][1] == 0)
        self.assertTrue(all(type(thing) is tuple for thing in (told.labels, told.names, told.children, told.givens, told.marks)))

    def family(self, scope, told):
        if type(scope) is not Scope:
            return SidedFamily(scope, told.record.rows, told.marks)
        self.assertTrue(fits(scope.customs[0], told.record))
        naming = Naming(scope.customs[0], told.record)
        self.assertEqual(told.givens, tuple((label, naming.given_of(label)) for label in naming))
        self.assertEqual({mark for _, mark in told.marks} - {0}, set())
        return Family(scope.customs[0], told.record.rows)

    def hold_new(self, scope, told):
        """What is promised of record_of alone."""
        self.assertEqual(kin_weddings(told.record), ())
        if isinstance(told.state, CoupleState):
            family = self.family(scope, told)
            tracked = {number for number, _ in told.state.borne}
            untracked = [name for number, name in enumerate(told.names) if number not in tracked]
            for child in told.children:
                self.assertTrue(not family.told[child][5] or family.told[child][0] not in untracked)


class RecordOfTest(ReadingTest):
    def test_the_result(self):
        told = Told(1, 2, 3, 4)
        self.assertEqual((told.state, told.record, told.labels, told.names, told.children, told.givens, told.marks),
                         (1, 2, 3, 4, (), (), ()))
        told = Told(1, 2, 3, 4, marks=7, givens=6, children=5)
        self.assertEqual((told.children, told.givens, told.marks), (5, 6, 7))

    def test_by_hand(self):
        scope = Scope(Custom([Take("ff", Dead("ff"), Unborne()), Free("ff")], FREE))
        table = table_of(scope)
        state = PersonState("s", (0, 1), ("dead",))
        told = record_of(table, state)
        self.hold(scope, told, state)
        self.assertEqual([row[0] for row in told.record.rows], ["comes", "comes", "weds", "born", "dies"])
        self.assertEqual(told.labels, (told.record.born[0],))
        couple = CoupleState((0, 0), ("dead",), 0, 0, ((0, 2),))
        told = record_of(table, couple)
        self.hold(scope, told, couple)
        self.assertEqual(told.labels, told.record.couples[0])

    def test_by_chance_each_state_of_a_table(self):
        for scope, states in small_scopes(40, 41):
            table = table_of(scope)
            for state in states:
                told = record_of(table, state)
                self.hold(scope, told, state)
                self.hold_new(scope, told)

    def test_scopes_with_other_methods(self):
        for scope in SIDED:
            table = table_of(scope)
            self.assertGreater(len(table), 20)
            for state in table:
                told = record_of(table, state)
                self.hold(scope, told, state)
                self.hold_new(scope, told)
            self.assertEqual({mark for state in table.persons for _, mark in record_of(table, state).marks}, {0, 7})

    def test_untracked_classes_are_given_by_takes_alone(self):
        custom = Custom([Take("ff", Number(2)), Free("m")], [Free()])
        scope = Scope(custom)
        table = table_of(scope)
        state = PersonState("s", (0, 0, None), ())
        self.assertEqual(scope.places("s"), ("", "f"))
        for state in table.couples:
            told = record_of(table, state)
            self.hold(scope, told, state)
            self.hold_new(scope, told)
        # A child can have such a name, as long as it is not the couple that is asked.
        son = PersonState("s", (0, 0), ())
        told = record_of(table, son)
        self.hold(scope, told, son)
        naming = Naming(custom, told.record)
        self.assertTrue(naming.is_free(told.labels[0]))

    def test_states_that_never_come(self):
        scope = Scope(Custom([Take("f"), Free()], FREE))
        table = table_of(scope)
        never = (PersonState("s", (None,), ()), PersonState("s", (0,), (), 1), PersonState("s", (), ()), PersonState("d", (0,), ()),
                 CoupleState((0,), (), 1, 0, ()), CoupleState((0,), (), 0, 0, ((0, 0),)), CoupleState((0, 1), (), 0, 0, ()))
        for thing in ODD_THINGS + never + (AlwaysEqual(), PersonState, scope):
            self.refused(NeverComes, (thing,), record_of, table, thing)
        by_hand = Table(scope, [PersonState("s", (None,), ()), PersonState("d", (), (), 4), CoupleState((0,), (), 0, 2, ())])
        for state in by_hand:
            self.refused(NeverComes, (state,), record_of, by_hand, state)
        for state in table:
            for other in (by_hand, Table(scope, []), table.without(state), by_hand | table):
                told = record_of(other, state)
                self.hold(scope, told, state)

    def test_too_many_states_go_first(self):
        scope = Marked(1, 500)
        for state in (None, PersonState("s", (), ()), PersonState("d", (0,), ())):
            self.refused(TooWide, ("states",), record_of, Table(scope, []), state)

    def test_too_many_rows(self):
        class Doubled(Scope):
            """A child of mark n needs parents of mark n - 1, so the rows double with each mark."""

            def child_mark(self, couple, kind):
                return min(13, couple.marks[0] + 1) if couple.marks[0] == couple.marks[1] else 0

        scope = Doubled(PLAIN)
        table = table_of(scope)
        for mark in range(13):
            state = PersonState("d", (), (), mark)
            if mark < 11:
                self.assertEqual(len(record_of(table, state).record), 3 * 2 ** mark - 2)
            else:
                self.refused(TooWide, ("rows",), record_of, table, state)
        self.refused(NeverComes, (None,), record_of, table, None)

    def test_few_rows_where_the_nearest_way_has_many(self):
        class Ways(Scope):
            """Mark 12 comes by twelve generations of doubled rows, or along a line of twenty."""

            def first_marks(self, kind):
                return (0, 20) if kind == "s" else (0,)

            def child_mark(self, couple, kind):
                his, hers = couple.marks
                if hers == 0 and 20 <= his < 40:
                    return (12 if his == 39 else his + 1) if kind == "s" else 0
                return his + 1 if his == hers and his < 12 else 0

        scope = Ways(PLAIN)
        told = record_of(table_of(scope), PersonState("s", (), (), 12))
        self.hold(scope, told, PersonState("s", (), (), 12))
        self.assertEqual(len(told.record), 61)
        self.refused(TooWide, ("rows",), record_of, table_of(scope), PersonState("d", (), (), 12))

    def test_what_comes_in_records_is_in_the_table(self):
        rng = random.Random(42)
        for scope, states in small_scopes(15, 43):
            if scope.followed:
                continue
            table = table_of(scope)
            for _ in range(10):
                record = chance_record(rng, scope.customs[0], rng.randint(4, 20), pool=rng.choice([2, 5, 50]))
                read = Watched(scope, Family(scope.customs[0], record.rows), record)
                for state in read.all_states().values():
                    self.assertIn(state, table)


class PlayedOnTest(ReadingTest):
    def hold_play(self, scope, told, deeds):
        """Each deed leads to the state that the step tells; return what is told at the end."""
        state = told.state
        for deed in deeds:
            state = [step for step in following_steps(scope, state) if step.deed == deed][0].results[0]
        behind = played_on(scope, told, deeds)
        self.hold(scope, behind, state)
        self.assertEqual(behind.record.rows[:len(told.record)], told.record.rows)
        self.assertEqual(behind.marks, told.marks)
        self.assertEqual(behind.givens[:len(told.givens)], told.givens)
        return behind

    def test_no_deeds(self):
        scope = Scope(PLAIN)
        told = record_of(table_of(scope), CoupleState((), (), 0, 0, ()))
        for deeds in ((), []):
            behind = self.hold_play(scope, told, deeds)
            self.assertEqual(behind.record, told.record)

    def test_each_deed(self):
        custom = Custom([Take("ff", Dead("ff"), Unborne()), Free("ff")], FREE)
        scope = Scope(custom)
        table = table_of(scope)
        told = record_of(table, CoupleState((0, 1), ("alive",), 0, 0, ((1, 0),)))
        father, mother = told.labels
        grandfather = told.record.father_of(father)
        behind = self.hold_play(scope, told, [("born", "s", 1, None), ("born", "d", 0, 1), ("born", "d", 0, 0)])
        rows = behind.record.rows[len(told.record):]
        self.assertEqual([row[:4] for row in rows], [("born", father, mother, kind) for kind in "sdd"])
        self.assertEqual([row[4] for row in rows], list(behind.children))
        self.assertEqual([row[5] for row in rows[1:]], [told.names[1], told.names[0]])
        self.assertNotIn(rows[0][5], [name for _, name in told.givens])
        # Both daughters stay, then the one that bears the tracked class dies.
        further = self.hold_play(scope, behind, [("bearers", 1)])
        self.assertEqual(further.record.rows[len(behind.record):], (("dies", behind.children[1]),))
        self.assertEqual(further.children, behind.children)
        last = self.hold_play(scope, further, [("elder", "ff"), ("born", "s", 0, 1), ("born", "s", 1, None), ("bearers", 1)])
        rows = last.record.rows[len(further.record):]
        self.assertEqual(rows[0], ("dies", grandfather))
        self.assertEqual([row[0] for row in rows], ["dies", "born", "born", "dies"])
        self.assertEqual((rows[1][5], rows[3]), (told.names[1], ("dies", rows[1][4])))
        for letter, label in (("f", mother), ("m", father)):
            alone = self.hold_play(scope, last, [("mate", letter)])
            self.assertEqual(alone.labels, (label,))
            self.assertEqual(alone.record.rows[-1], ("dies", father if letter == "f" else mother))
        self.assertEqual(self.hold_play(scope, last, [("mate", "m")]).names, told.names)
        self.assertEqual(self.hold_play(scope, last, [("mate", "f")]).names, ())
        person = record_of(table, PersonState("s", (0, 1), ("alive",)))
        behind = self.hold_play(scope, person, (("elder", "f"),))
        self.assertEqual(behind.record.rows[-1], ("dies", person.record.father_of(person.labels[0])))

    def test_several_bearers_die(self):
        scope = Scope(Custom([Take("f"), Free()], [Take("f", Never()), Free()]))
        told = record_of(table_of(scope), CoupleState((0,), (), 0, 0, ((0, 0),)))
        behind = self.hold_play(scope, told, [("born", "s", 0, 0)] * 3 + [("born", "d", 1, None), ("bearers", 0)])
        self.assertEqual(behind.record.rows[-3:], tuple(("dies", child) for child in behind.children[:3]))
        behind = self.hold_play(scope, behind, [("born", "s", 0, 0), ("bearers", 0)])
        self.assertEqual(behind.record.rows[-1], ("dies", behind.children[4]))

    def test_labels_and_names_are_new(self):
        scope = Scope(Custom([Free("living")], [Free()], house=[("f", 0)]))
        table = table_of(scope)
        told = record_of(table, table.couples[0])
        pairs = {"record": told.record.after(("comes", "zz", "s", 7, (8,)), ("comes", "c", "d", 2, (0,)), ("comes", "ab", "d", 9, (3,)))}
        more = (("zz", 7), ("c", 2), ("ab", 9))
        told = Told(told.state, pairs["record"], told.labels, told.names, (), told.givens + more, told.marks + (("zz", 0), ("c", 0), ("ab", 0)))
        behind = self.hold_play(scope, told, [("born", "s", 0, None)] * 30)
        names = [name for _, name in told.givens] + [name for row in told.record.rows if row[0] == "comes" for name in row[4]]
        given = [name for _, name in behind.givens[len(told.givens):]]
        self.assertEqual(len(set(given)), 30)
        self.assertFalse(set(given) & set(names))

    def test_names_of_choices_are_not_new_either(self):
        scope = Scope(Custom([Take("f"), Free()], FREE))
        rows = [("comes", "a", "s", 0, ()), ("comes", "b", "d", 1, ()), ("weds", "a", "b"), ("born", "a", "b", "s", "c", 2)]
        told = Told(CoupleState((0,), (), 0, 0, ()), Record(0, rows), ("a", "b"), (0,), ("c",),
                    (("a", 0), ("b", 1), ("c", 0)), (("a", 0), ("b", 0)))
        self.assertEqual(played_on(scope, told, [("born", "d", 0, None)]).givens[-1], ("d", 3))

    def test_wrong_deeds(self):
        custom = Custom([Take("f", Never()), Free("living")], [Take("ff", Alive("ff")), Free()])
        scope = Scope(custom)
        table = table_of(scope)
        told = record_of(table, CoupleState((0, 1), ("dead",), 0, 0, ((0, 0), (1, 0))))
        good = [("born", "s", 0, 0), ("born", "d", 1, None), ("born", "d", 1, 0), ("mate", "f")]
        self.hold_play(scope, told, good)
        wrong = (("born", "s", 0, False), ("born", "s", False, 0), ("born", "s", 0, None), ("born", "s", 1, 0), ("born", "s", 0, 0, 0),
                 ("born", "s", 0), ("born", "d", 0, 1), ("born", "d", 1, 2), ("born", "d", True, None), ("born", "d", 1, "bearer"),
                 ("elder", "ff"), ("elder", "f"), ("bearers", 0), ("bearers", 1), ("mate", "d"), ("mate",), ("weds", ()),
                 ("comes", "s"), (), ("born",), ("dies", "a"), (None,), (AlwaysEqual(), "f"), ("mate", AlwaysEqual()), ("mate", ["f"]),
                 ["mate", "f"], None, "mate", ("born", "s", 0, 0.0), ("elder", None), ("bearers", True))
        for deed in wrong:
            self.refused(BadPlay, (0,), played_on, scope, told, (deed, None))
            self.refused(BadPlay, (1,), played_on, scope, told, [("born", "d", 1, None), deed, ("mate", "f")])
        for deed in (("born", "s", 0, 0), ("mate", "m"), ("born", "d", 1, None)):
            self.refused(BadPlay, (4,), played_on, scope, told, good + [deed])
        # Behind the death of the father, his son's father is dead.
        person = record_of(table, PersonState("s", (0, 0), ("dead",)))
        for deed in wrong + (("elder", "f"), ("mate", "f")):
            self.refused(BadPlay, (0,), played_on, scope, person, (deed,))

    def test_names_that_a_child_of_the_record_bears(self):
        for bars, again in (((), True), (("living",), False), (("ever",), False), (("f", "ever"), False)):
            custom = Custom([Free(*bars)], [Free()])
            scope = Scope(custom, also=("ff",))
            self.assertEqual((scope.places("s"), scope.reads.tracked), (("", "f"), ()))
            table = table_of(scope)
            told = record_of(table, CoupleState((0, 1), ("alive",), 0, 0, ()))
            for first in (("born", "s", 0, 1), ("born", "d", 0, 1)):
                if again:
                    self.hold_play(scope, told, (first, ("born", "s", 0, 1)))
                else:
                    self.refused(BadPlay, (1,), played_on, scope, told, (first, ("born", "s", 0, 1)))
                    behind = self.hold_play(scope, told, (first,))
                    self.refused(BadPlay, (2,), played_on, scope, behind, (("born", "d", 0, 1), ("born", "s", 0, None), ("born", "s", 0, 1)))
                    # When the child is dead, "living" does not bar its name.
                    dead = Told(behind.state, behind.record.after(("dies", behind.children[0])), *list(vars(behind).values())[2:])
                    if "living" in bars:
                        self.hold_play(scope, dead, (("born", "s", 0, 1),))
                    else:
                        self.refused(BadPlay, (0,), played_on, scope, dead, (("born", "s", 0, 1),))
                self.hold_play(scope, told, (first, ("born", "d", 0, 1), ("born", "s", 0, None)))

    def test_a_take_is_not_barred(self):
        custom = Custom([Take("f"), Free("ever", "living")], FREE)
        scope = Scope(custom)
        told = record_of(table_of(scope), CoupleState((0,), (), 0, 0, ((0, 0),)))
        self.hold_play(scope, told, [("born", "s", 0, 0)] * 3)

    def test_followed_names(self):
        custom = Custom([Take("f", Unborne()), Free("living")], [Free()])
        scope = Scope(custom, followed=True)
        table = table_of(scope)
        told = record_of(table, CoupleState((0,), (), 0, 0, ((0, 2), (1, 0))))
        self.assertIsNone(told.names[1])
        behind = self.hold_play(scope, told, [("born", "d", 0, None), ("born", "d", 0, 1), ("born", "d", 0, 1)])
        given = [name for _, name in behind.givens[-3:]]
        self.assertEqual(len(set(given)), 2)
        self.assertEqual((given[1], given[2]), (behind.names[1], behind.names[1]))
        self.assertFalse({behind.names[1]} & {name for _, name in told.givens})
        self.refused(BadPlay, (0,), played_on, scope, behind, [("born", "s", 1, 1)])
        further = self.hold_play(scope, behind, [("bearers", 1), ("born", "s", 1, 1), ("born", "d", 0, 1)])
        self.assertEqual(further.names, behind.names)
        self.assertEqual([row[0] for row in further.record.rows[len(behind.record):]], ["dies", "dies", "born", "born"])
        alone = self.hold_play(scope, further, [("mate", "m")])
        self.assertEqual(alone.names, (told.names[0],))
        self.assertEqual(self.hold_play(scope, further, [("mate", "f")]).names, ())

    def test_by_chance_deeds_behind_one_another(self):
        rng = random.Random(44)
        for scope, states in small_scopes(25, 45) + [(scope, closure(scope)) for scope in SIDED]:
            table = table_of(scope)
            for state in rng.sample(states, min(8, len(states))):
                told = record_of(table, state)
                for _ in range(rng.randint(1, 6)):
                    told = self.play_by_chance(rng, scope, told)

    def play_by_chance(self, rng, scope, told):
        deeds = [step.deed for step in following_steps(scope, told.state)]
        if not deeds:
            return told
        deed = rng.choice(deeds)
        try:
            return self.hold_play(scope, told, (deed,))
        except BadPlay as error:
            self.assertEqual(error.index, 0)
            borne = {name for label, name in told.givens if label in told.children}
            self.assertIn(told.names[deed[3]], borne)
            self.assertIsNone(told.state.mark_of(deed[3]))
            custom = scope.custom_for(told.state, deed[1])
            self.assertTrue({"living", "ever"} & set(custom.clauses(deed[1])[-1].bars))
            return told

    def test_many_rows(self):
        scope = Scope(PLAIN)
        told = record_of(table_of(scope), CoupleState((), (), 0, 0, ()))
        free = 5000 - len(told.record)
        full = played_on(scope, told, [("born", "s", 0, None)] * free)
        self.assertEqual(len(full.record), 5000)
        self.assertEqual(len(set(full.record.persons)), 4999)
        self.refused(TooWide, ("rows",), played_on, scope, told, [("born", "s", 0, None)] * (free + 1))
        self.refused(TooWide, ("rows",), played_on, scope, full, [("mate", "f")])
        # A wrong deed behind too many rows is a wrong deed.
        self.refused(BadPlay, (free + 1,), played_on, scope, told, [("born", "s", 0, None)] * (free + 1) + [()])
