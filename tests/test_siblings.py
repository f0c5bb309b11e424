"""Namesakes among living siblings [6.1] to [6.4]."""

import itertools
import random

from namesakes.bearings import bearing_of
from namesakes.clauses import Alive, Dead, Free, Never, Number, Take, Unborne, Unlike
from namesakes.customs import Custom
from namesakes.errors import BadAsked, TooWide
from namesakes.families import Family, NeverAlike
from namesakes.naming import Naming
from namesakes.records import Record
from namesakes.scopes import Scope
from namesakes.siblings import sibling_namesakes, siblings_fault
from namesakes.states import CoupleState
from namesakes.steps import following_steps
from namesakes.tables import Table, table_of
from tests.checks import Checks
from tests.families import ODD_THINGS, AlwaysEqual, chance_custom, chance_record
from tests.test_steps import key
from tests.twos import plain_namesakes

FREE = [Free()]
LIVING = [Free("living")]
PLAIN = Custom(FREE, FREE)
BARRED = Custom(LIVING, LIVING)
KINDS = ("ss", "dd", "sd", "any")
ROWS = [("comes", "a", "s", 1, ()), ("comes", "b", "d", 2, ()), ("weds", "a", "b"), ("born", "a", "b", "s", "c", 3), ("born", "a", "b", "s", "e", 3)]


def are_asked(record, one, other, kinds):
    pair = record.kind_of(one) + record.kind_of(other)
    return kinds == "any" or sorted(pair) == sorted(kinds)


def following(custom, scope, couple, name):
    """The following steps, told plainly from [6.3]."""
    for step in following_steps(scope, couple):
        deed = step.deed
        if deed[0] == "mate" or deed[0] == "bearers" and deed[1] == name:
            continue
        if deed[0] == "born" and name is not None and deed[3] == name and not again(custom, deed):
            continue
        yield step


def again(custom, deed):
    clauses = custom.clauses(deed[1])
    return deed[2] < len(clauses) - 1 or not {"living", "ever"} & set(clauses[-1].bars)


def elder_kinds(kinds):
    return {"ss": "s", "dd": "d", "sd": "sd", "any": "sd"}[kinds]


def all_followed(custom, table, kinds):
    """The entries of a NeverAlike, told plainly, by (kind, name, key of the state)."""
    found = {}
    for kind in elder_kinds(kinds):
        waiting = []
        for couple in table.couples:
            for step in following_steps(table.scope, couple):
                if step.deed[0] == "born" and step.deed[1] == kind:
                    waiting.append((step.deed[3], step.results[0]))
        while waiting:
            name, couple = waiting.pop()
            if (kind, name, key(couple)) not in found:
                found[kind, name, key(couple)] = True
                waiting += [(name, step.results[0]) for step in following(custom, table.scope, couple, name)]
    return set(found)


class AskCase(Checks):
    def can(self, custom, kinds):
        """Ask, hold the answer against judge and rows, and return whether they can be namesakes."""
        result = sibling_namesakes(custom, kinds)
        self.assertIsNone(siblings_fault(custom, kinds, result))
        if isinstance(result, NeverAlike):
            self.assertEqual(result.table, table_of(Scope(custom)))
            told = [(kind, name, key(couple)) for kind, name, couple in result.followed]
            self.assertEqual((len(set(told)), set(told)), (len(told), all_followed(custom, result.table, kinds)))
            self.assertIs(type(result.followed), tuple)
            return False
        naming = Naming(custom, result.record)
        self.assertIn((result.one, result.other), plain_namesakes(result.record, naming.given_of))
        self.assertTrue(are_asked(result.record, result.one, result.other, kinds))
        return True

    def told(self, custom):
        return [self.can(custom, kinds) for kinds in KINDS]


class AskTest(AskCase):
    def test_free_names(self):
        self.assertEqual(self.told(PLAIN), [True] * 4)
        self.assertEqual(self.told(BARRED), [False] * 4)
        self.assertEqual(self.told(Custom([Free("ever")], [Free("ever")])), [False] * 4)
        # The elder one may be of either kind: daughters' bars count both kinds' names.
        self.assertEqual(self.told(Custom(FREE, LIVING)), [True, False, True, True])
        self.assertEqual(self.told(Custom(LIVING, FREE)), [False, True, True, True])
        self.assertEqual(self.told(Custom([Free("f", "m", "ff", "fm")], [Free("living")])), [True, False, True, True])

    def test_names_given_again_by_a_take(self):
        self.assertEqual(self.told(Custom([Take("f"), Free("living")], LIVING)), [True, False, True, True])
        self.assertEqual(self.told(Custom([Take("f", Unborne()), Free("living")], LIVING)), [False] * 4)
        # A daughter had the father's name by a free choice; a son takes it.
        self.assertEqual(self.told(Custom([Take("f", Number(1)), Free("living")], LIVING)), [False, False, True, True])
        self.assertEqual(self.told(Custom([Take("f", Number(1)), Free("living")], [Free("living", "f")])), [False] * 4)
        self.assertEqual(self.told(Custom([Take("f", Number(1)), Take("f", Number(2)), Free("living")], [Free("living", "f")])), [True, False, False, True])
        self.assertEqual(self.told(Custom([Take("ff", Number(1)), Free("ff", "living")], [Take("ff", Number(1)), Free("ff", "living")])), [False, False, True, True])

    def test_the_elder_one_must_live(self):
        self.assertEqual(self.told(Custom([Take("f", Unborne()), Free("f", "living")], [Free("living", "f")])), [False] * 4)
        self.assertEqual(self.told(Custom([Take("f", Never()), Free("f", "living")], [Free("living", "f")])), [False] * 4)
        # The father's father lives as long as the first one alone is named.
        self.assertEqual(self.told(Custom([Take("ff", Alive("ff"), Number(1)), Take("ff", Dead("ff"), Number(2)), Free("living", "ff")], [Free("living", "ff")])),
                         [True, False, False, True])

    def test_like_names_at_unlike_places(self):
        # A father and a father's father of one name; kin who wed.
        custom = Custom([Take("ff", Number(1)), Take("f", Number(2)), Free("living", "f", "ff")], [Free("living", "f", "ff")])
        self.assertEqual(self.told(custom), [True, False, False, True])
        custom = Custom([Take("ff", Number(1)), Take("f", Number(2), Unlike("f", "ff")), Free("living", "f", "ff")], [Free("living", "f", "ff")])
        self.assertEqual(self.told(custom), [False] * 4)

    def test_a_new_name_followed(self):
        # The elder one's name is no class of the couple.
        custom = Custom([Free("f", "m")], [Free("f", "m")])
        result = sibling_namesakes(custom, "sd")
        naming = Naming(custom, result.record)
        father, mother = result.record.father_of(result.one), result.record.mother_of(result.one)
        self.assertNotIn(naming.given_of(result.one), (naming.given_of(father), naming.given_of(mother)))
        self.assertEqual(self.told(custom), [True] * 4)
        paper = sibling_namesakes(BARRED, "ss")
        self.assertIn(("s", None), {(kind, name) for kind, name, _ in paper.followed})
        self.assertEqual({kind for kind, _, _ in paper.followed}, {"s"})
        self.assertEqual({kind for kind, _, _ in sibling_namesakes(BARRED, "sd").followed}, {"s", "d"})

    def test_births_between_the_two(self):
        # The second son takes his mother's name, so only the third one can have the first one's.
        custom = Custom([Take("m", Number(2)), Free("m")], [Free("living", "m")])
        self.assertEqual(self.told(custom), [True, False, True, True])
        result = sibling_namesakes(custom, "ss")
        self.assertGreaterEqual(len(result.record.siblings_of(result.one)), 2)

    def test_couples_who_are_dead(self):
        record = Record(0, ROWS + [("dies", "a"), ("dies", "b")])
        self.assertIsNone(siblings_fault(PLAIN, "ss", Family(record, "c", "e")))

    def test_errors(self):
        wide = Custom([Take("fff"), Take("ffm"), Take("fmf"), Free()], FREE)
        for thing in ODD_THINGS + ("ds", "s", "SS", "both", "sdd", ["ss"], ("s", "s"), AlwaysEqual()):
            self.refused(BadAsked, ("kinds",), sibling_namesakes, wide, thing)
            self.refused(BadAsked, ("kinds",), siblings_fault, wide, thing, Family(Record(0), "a", "b"))
        for kinds in KINDS:
            self.refused(TooWide, ("names",), sibling_namesakes, wide, kinds)
            self.refused(TooWide, ("names",), siblings_fault, wide, kinds, Family(Record(0), "a", "b"))
        states = Custom([Take("fff", Dead("fm")), Take("mm"), Free()], [Take("mmm", Never()), Free()])
        self.refused(TooWide, ("states",), sibling_namesakes, states, "ss")
        self.assertEqual(siblings_fault(states, "ss", NeverAlike(Table(Scope(states), []), ())), "table")
        self.refused(TooWide, ("tracked",), sibling_namesakes, Custom([Take("f"), Take("m"), Take("ff"), Free("ever")], FREE), "any")


class BearingTest(Checks):
    def test_the_bearers_name_is_that_of_its_birth(self):
        table = table_of(Scope(PLAIN))
        couple = next(couple for couple in table.couples if couple.is_new)
        bearing = bearing_of(table, couple, [("born", "s", 0, None), ("born", "d", 0, None), ("born", "d", 0, "bearer"), ("born", "s", 0, None), ("born", "s", 0, "bearer")])
        naming = Naming(PLAIN, bearing.record)
        self.assertEqual(bearing.children, bearing.record.children_of(*bearing.labels))
        names = [naming.given_of(child) for child in bearing.children]
        self.assertEqual([names.index(name) for name in names], [0, 1, 0, 3, 0])


class FamilyWordsTest(Checks):
    def test_words(self):
        rows = ROWS + [("born", "a", "b", "d", "g", 3), ("born", "a", "b", "d", "h", 4), ("born", "a", "b", "s", "i", 3), ("dies", "i")]
        record = Record(0, rows)

        def fault(kinds, one, other, record=record):
            return siblings_fault(PLAIN, kinds, Family(record, one, other))

        for kinds, one, other, word in (
            ("ss", "c", "e", None), ("any", "c", "e", None), ("sd", "c", "g", None), ("any", "e", "g", None),
            ("ss", "c", "x", "persons"), ("ss", "x", "c", "persons"), ("ss", "c", "c", "persons"), ("ss", "c", "i", "persons"), ("any", "i", "c", "persons"),
            ("ss", "e", "c", "siblings"), ("ss", "a", "c", "siblings"), ("sd", "a", "b", "siblings"), ("dd", "h", "g", "siblings"), ("any", "a", "b", "siblings"),
            ("dd", "c", "e", "kinds"), ("sd", "c", "e", "kinds"), ("ss", "c", "g", "kinds"), ("dd", "c", "h", "kinds"), ("ss", "g", "h", "kinds"),
            ("dd", "g", "h", "names"), ("sd", "c", "h", "names"), ("any", "g", "h", "names"),
        ):
            self.assertEqual(fault(kinds, one, other), word, (kinds, one, other))
        for thing in ODD_THINGS + (AlwaysEqual(),):
            self.assertEqual(fault("ss", thing, "e"), "persons")
            self.assertEqual(fault("ss", "c", thing), "persons")
        self.assertEqual(siblings_fault(BARRED, "ss", Family(record, "c", "x")), "record")
        self.assertEqual(fault("ss", "x", "y", Record(1)), "record")

    def test_half_siblings_are_no_siblings(self):
        rows = ROWS[:4] + [("dies", "b"), ("comes", "g", "d", 5, ()), ("weds", "a", "g"), ("born", "a", "g", "s", "h", 3)]
        self.assertEqual(siblings_fault(PLAIN, "ss", Family(Record(0, rows), "c", "h")), "siblings")

    def test_the_elder_kind_may_be_either(self):
        rows = ROWS[:3] + [("born", "a", "b", "d", "c", 3), ("born", "a", "b", "s", "e", 3)]
        self.assertIsNone(siblings_fault(PLAIN, "sd", Family(Record(0, rows), "c", "e")))


class PaperWordsTest(Checks):
    def setUp(self):
        self.custom = Custom([Take("f", Unborne()), Free("living", "f")], [Free("living", "f")])
        self.paper = sibling_namesakes(self.custom, "any")

    def fault(self, followed, table=None, kinds="any"):
        return siblings_fault(self.custom, kinds, NeverAlike(table or self.paper.table, followed))

    def test_right_papers_that_are_not_returned(self):
        table, followed = self.paper.table, self.paper.followed
        self.assertIsNone(self.fault(tuple(reversed(followed))))
        self.assertIsNone(self.fault(followed + followed[:9]))
        for kinds in KINDS:
            self.assertIsNone(self.fault(followed, kinds=kinds))
        self.assertIsNone(self.fault(followed, Table(table.scope, tuple(reversed(table.states)))))
        # A wider scope of the custom alone is let.
        wider = Scope(self.custom, also=("f",))
        states = {key(couple): couple for couple in table_of(wider).couples}
        entries = tuple((kind, name, states[told]) for kind, name, told in all_followed(self.custom, table_of(wider), "any"))
        self.assertIsNone(self.fault(entries, table_of(wider)))
        self.assertIsNone(self.fault(followed, table_of(Scope(self.custom, tracked=("f",)))))
        # What stands of states that are not in the table is left out.
        more = CoupleState((0, 1), (), 0, 0, ((0, 2),), (5, 5))
        self.assertNotIn(more, table)
        self.assertIsNone(self.fault(followed + (("s", 0, more), ("x", 1, more))))

    def test_tables(self):
        table, followed = self.paper.table, self.paper.followed
        for state in table.states:
            self.assertEqual(self.fault(followed, table.without(state)), "table")
        for scope in (Scope(PLAIN), Scope(self.custom, self.custom), Scope(self.custom, followed=True), Scope(self.custom, PLAIN)):
            self.assertEqual(self.fault((), table_of(scope)), "table")

    def test_entries_left_out(self):
        followed = self.paper.followed
        words = [self.fault(followed[:at] + followed[at + 1:]) for at in range(len(followed))]
        self.assertEqual(set(words), {"first", "step"})
        self.assertEqual(self.fault(()), "first")
        # Without what births lead to, it is that word; without what only steps behind them lead to, the other one.
        table = self.paper.table
        born = {(step.deed[1], step.deed[3], key(step.results[0])) for couple in table.couples for step in following_steps(table.scope, couple) if step.deed[0] == "born"}
        for (kind, name, couple), word in zip(followed, words):
            self.assertEqual(word, "first" if (kind, name, key(couple)) in born else "step")

    def test_an_entry_from_which_a_step_leads_on(self):
        followed = self.paper.followed
        # Kinds that the elder one may not have are followed, too.
        alone = tuple(entry for entry in followed if entry[0] == "s")
        self.assertIsNone(self.fault(alone, kinds="ss"))
        lone = next(couple for kind, name, couple in followed if kind == "d" and name is None and couple.is_new)
        self.assertEqual(self.fault(alone + (("d", None, lone),), kinds="ss"), "step")

    def test_more_entries_than_must_be(self):
        # Sons never have the father's name. From a state in which nobody living has it, a daughter's Free gives it,
        # but not again, so what that leads to need not stand there.
        custom = Custom([Free("f", "living")], [Take("f", Unborne(), Number(2)), Free("living")])
        paper = sibling_namesakes(custom, "ss")
        self.assertEqual({name for _, name, _ in paper.followed}, {None})
        more = {}
        waiting = [couple for couple in paper.table.couples if couple.is_new][:1]
        while waiting:
            couple = waiting.pop()
            if key(couple) not in more:
                more[key(couple)] = couple
                waiting += [step.results[0] for step in following(custom, paper.table.scope, couple, 0)]
        entries = tuple(("s", 0, couple) for couple in more.values())
        self.assertIsNone(siblings_fault(custom, "ss", NeverAlike(paper.table, paper.followed + entries)))
        skipped = [step.results[0] for couple in more.values() for step in following_steps(paper.table.scope, couple) if step.deed[0] == "born" and step.deed[3] == 0 and not again(custom, step.deed)]
        self.assertTrue([couple for couple in skipped if key(couple) not in more])
        for at in range(len(entries)):
            self.assertIn(siblings_fault(custom, "ss", NeverAlike(paper.table, paper.followed + entries[:at] + entries[at + 1:])), (None, "step"))

    def test_again(self):
        custom = Custom([Take("f"), Free("living", "f")], [Free("living", "f")])
        table = table_of(Scope(custom))
        states = {key(couple): couple for couple in table.couples}
        for kinds, word in (("ss", "again"), ("any", "again"), ("dd", None), ("sd", None)):
            entries = tuple((kind, name, states[told]) for kind, name, told in all_followed(custom, table, kinds))
            self.assertEqual(siblings_fault(custom, kinds, NeverAlike(table, entries)), word)
            # A new name is followed: it is not given again by a Free that bars.
        for custom, told in ((Custom(FREE, LIVING), ["again", None, "again", "again"]), (Custom([Free("ever")], FREE), [None, "again", "again", "again"]), (PLAIN, ["again"] * 4)):
            table = table_of(Scope(custom))
            states = {key(couple): couple for couple in table.couples}
            for kinds, word in zip(KINDS, told):
                entries = tuple((kind, name, states[told]) for kind, name, told in all_followed(custom, table, kinds))
                self.assertEqual(siblings_fault(custom, kinds, NeverAlike(table, entries)), word, kinds)


class ChanceTest(AskCase):
    def test_against_records(self):
        rng = random.Random(604)
        found = {True: 0, False: 0}
        for _ in range(90):
            custom = chance_custom(rng, longest=rng.choice([2, 2, 3]))
            if rng.random() < 0.5:
                custom = Custom([*custom.sons[:-1], Free("living")], [*custom.daughters[:-1], Free("ever")], house=custom.house, son_weds=custom.son_weds,
                                daughter_weds=custom.daughter_weds)
            try:
                told = dict(zip(KINDS, self.told(custom)))
            except TooWide:
                continue
            self.assertEqual(told["any"], told["ss"] or told["sd"] or told["dd"])
            for answer in told.values():
                found[answer] += 1
            for _ in range(8):
                record = chance_record(rng, custom, rng.randint(6, 25), pool=rng.choice([2, 3, 40]))
                for pair in plain_namesakes(record, Naming(custom, record).given_of):
                    self.assertTrue(all(can for kinds, can in told.items() if are_asked(record, *pair, kinds)))
        self.assertGreater(min(found.values()), 40)

    def test_mirrored_customs_have_the_same_answers(self):
        rng = random.Random(605)
        turned = {"ss": "dd", "dd": "ss", "sd": "sd", "any": "any"}
        for _ in range(25):
            custom = chance_custom(rng, most=1)
            try:
                told = dict(zip(KINDS, self.told(custom)))
            except TooWide:
                continue
            for kinds, back in turned.items():
                self.assertEqual(self.can(custom.mirrored(), back), told[kinds])

    def test_every_small_family(self):
        # All records of one couple with up to four births and deaths, for small customs.
        rows = ROWS[:3]
        for custom in (BARRED, Custom([Take("f", Unborne()), Free("f", "living")], LIVING), Custom([Free("ever", "f")], [Take("m", Number(2)), Free("ever")])):
            told = dict(zip(KINDS, self.told(custom)))
            for births in itertools.product("sd", repeat=3):
                for names in itertools.product((1, 2, 3), repeat=3):
                    for dead in (None, "c", "e"):
                        more = [("born", "a", "b", kind, label, name) for kind, label, name in zip(births, "ceg", names)]
                        if dead is not None:
                            more.insert("ce".index(dead) + 1, ("dies", dead))
                        try:
                            record = Record(0, rows + more)
                            naming = Naming(custom, record)
                        except ValueError:
                            continue
                        for pair in plain_namesakes(record, naming.given_of):
                            self.assertTrue(all(can for kinds, can in told.items() if are_asked(record, *pair, kinds)))
