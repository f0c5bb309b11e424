"""The greatest number of living namesakes among siblings, and rings [6.5], [6.7]."""

import collections
import random

from namesakes.clauses import Dead, Free, Never, Number, Take, Unborne
from namesakes.customs import Custom
from namesakes.errors import BadAsked, TooLong, TooWide
from namesakes.families import Endless, Most, NeverAlike
from namesakes.naming import Naming, fits
from namesakes.readings import couple_state_of
from namesakes.records import Record
from namesakes.ringjudge import most_fault
from namesakes.rings import most_namesakes, ring_said
from namesakes.scopes import Scope
from namesakes.siblings import sibling_namesakes
from namesakes.steps import following_steps
from namesakes.tables import table_of
from tests.checks import Checks
from tests.families import ODD_THINGS, AlwaysEqual, chance_custom, chance_record
from tests.test_siblings import again, all_followed, following
from tests.test_steps import key

FREE = [Free()]
LIVING = [Free("living")]
PLAIN = Custom(FREE, FREE)
BARRED = Custom(LIVING, LIVING)
THREE = Custom([Take("f", Number(1)), Take("f", Number(2)), Take("f", Number(3)), Free("f", "living")], [Free("f", "living")])


def counts(kind):
    return "sd" if kind is None else kind


def plain_prices(custom, table, kind, number):
    """The prices of a Most, told plainly: raised until no step asks for more."""
    kinds = counts(kind)
    states = {key(couple): couple for couple in table.couples}
    nodes = {(name, told) for _, name, told in set().union(*[all_followed(custom, table, one * 2) for one in kinds])}
    prices = dict.fromkeys(nodes, 0)
    moves = {}
    for name, told in nodes:
        for step in following(custom, table.scope, states[told], name):
            gives = step.deed[0] == "born" and step.deed[3] == name and again(custom, step.deed) and step.deed[1] in kinds
            moves.setdefault((name, told), []).append(((name, key(step.results[0])), int(gives)))
    changed = True
    while changed:
        changed = False
        for node, ways in moves.items():
            price = max([prices[behind] + gives for behind, gives in ways], default=0)
            if price > prices[node]:
                assert price <= number, "it goes on without end"
                prices[node] = price
                changed = True
    return prices


def living_namesakes(custom, record, kind):
    """The greatest number of living children of one couple with one name who count, told plainly."""
    naming = Naming(custom, record)
    groups = collections.Counter()
    for label in record.born:
        if record.is_alive(label) and record.kind_of(label) in counts(kind):
            groups[record.father_of(label), record.mother_of(label), naming.given_of(label)] += 1
    return max(groups.values(), default=0)


class AskCase(Checks):
    def ask(self, custom, kind=None):
        """Ask, hold the answer against judge and rows, and return the number or None for no greatest one."""
        result = most_namesakes(custom, kind)
        self.assertIsNone(most_fault(custom, kind, result))
        if isinstance(result, Endless):
            self.hold_endless(custom, kind, result)
            return None
        self.assertIs(type(result), Most)
        self.assertEqual(result.table, table_of(Scope(custom)))
        prices = {(name, key(couple)): price for name, couple, price in result.prices}
        self.assertEqual((len(prices), prices), (len(result.prices), plain_prices(custom, result.table, kind, result.number)))
        self.assertEqual(len(result.bearers), result.number)
        self.assertGreaterEqual(living_namesakes(custom, result.record, kind), result.number)
        self.assertEqual((type(result.bearers), type(result.prices)), (tuple, tuple))
        return result.number

    def hold_endless(self, custom, kind, result):
        self.assertTrue(fits(custom, result.record))
        self.assertIn((result.father, result.mother), result.record.couples)
        self.assertIn(result.bearer, result.record.children_of(result.father, result.mother))
        for times in (0, 1, 2, 7):
            self.hold_said(custom, kind, result, times)

    def hold_said(self, custom, kind, result, times):
        record = ring_said(custom, result, times)
        naming = Naming(custom, record)
        self.assertEqual(record.rows[:len(result.record)], result.record.rows)
        given = naming.given_of(result.bearer)
        children = [child for child in record.children_of(result.father, result.mother) if record.is_alive(child)]
        self.assertGreaterEqual(sum(naming.given_of(child) == given and record.kind_of(child) in counts(kind) for child in children), times + 1)
        scope = Scope(custom)
        first = couple_state_of(scope, Naming(custom, result.record), result.father, result.mother)
        self.assertEqual(couple_state_of(scope, naming, result.father, result.mother), first)
        self.assertEqual(len(record) == len(result.record), times == 0)


class MostTest(AskCase):
    def told(self, custom):
        return [self.ask(custom, kind) for kind in (None, "s", "d")]

    def test_by_hand(self):
        self.assertEqual(self.told(BARRED), [1, 1, 1])
        self.assertEqual(self.told(PLAIN), [None] * 3)
        self.assertEqual(self.told(THREE), [3, 3, 1])
        self.assertEqual(self.told(THREE.mirrored()), [3, 1, 3])
        self.assertEqual(self.told(Custom([Take("f", Number(1)), Take("f", Number(3)), Free("f", "living")], [Take("f", Number(2)), Free("f", "living")])), [3, 2, 1])
        # The fourth son and all behind him.
        self.assertEqual(self.told(Custom([Take("f", Number(4)), Free("f", "living")], [Free("f", "living")])), [None, None, 1])
        self.assertEqual(self.told(Custom(FREE, LIVING)), [None, None, 1])
        self.assertEqual(self.told(Custom([Take("f", Unborne()), Free("living")], [Free("living", "f")])), [1, 1, 1])

    def test_births_that_do_not_count(self):
        # Sons are namesakes of one daughter at most; of sons alone none are.
        custom = Custom([Take("f", Number(1)), Free("living")], LIVING)
        self.assertEqual(self.told(custom), [2, 1, 1])
        # A daughter's birth gives the name again without end, but only sons count.
        custom = Custom([Take("f", Number(2)), Free("living", "f")], [Take("f"), Free()])
        self.assertEqual(self.told(custom), [None, 1, None])
        custom = Custom([Take("f", Number(2)), Take("f", Number(3)), Free("living", "f")], [Take("f"), Free()])
        self.assertEqual(self.told(custom), [None, 2, None])

    def test_deaths_between(self):
        # Elders die between the births.
        custom = Custom([Take("ff", Dead("ff"), Number(2)), Take("ff", Number(1)), Free("ff", "living")], [Free("ff", "living")])
        self.assertEqual(self.told(custom), [2, 2, 1])
        # Bearers of another name die and give way, again and again.
        custom = Custom([Take("f", Unborne()), Free("f", "ever")], [Free()])
        self.assertEqual(self.told(custom), [None, 1, None])

    def test_one_is_never(self):
        rng = random.Random(606)
        for _ in range(25):
            custom = chance_custom(rng, most=1)
            try:
                told = self.told(custom)
            except TooWide:
                continue
            for kinds, number in zip(("any", "ss", "dd"), told):
                self.assertEqual(isinstance(sibling_namesakes(custom, kinds), NeverAlike), number == 1)

    def test_against_records(self):
        rng = random.Random(607)
        found = collections.Counter()
        for _ in range(50):
            custom = chance_custom(rng, longest=rng.choice([2, 2, 3]))
            if rng.random() < 0.6:
                bars = [rng.choice(["living", "ever"]) for _ in range(2)]
                custom = Custom([*custom.sons[:-1], Free("f", bars[0])], [*custom.daughters[:-1], Free("f", bars[1])], house=custom.house, son_weds=custom.son_weds,
                                daughter_weds=custom.daughter_weds)
            try:
                told = self.told(custom)
            except TooWide:
                continue
            found.update(told)
            for _ in range(8):
                record = chance_record(rng, custom, rng.randint(6, 25), pool=rng.choice([2, 3, 40]))
                for kind, number in zip((None, "s", "d"), told):
                    if number is not None:
                        self.assertLessEqual(living_namesakes(custom, record, kind), number)
        self.assertGreater(found[None], 20)
        self.assertGreater(found[1], 20)

    def test_errors(self):
        wide = Custom([Take("fff"), Take("ffm"), Take("fmf"), Free()], FREE)
        for thing in [thing for thing in ODD_THINGS if thing is not None] + ["ss", "any", AlwaysEqual()]:
            self.refused(BadAsked, ("kind",), most_namesakes, wide, thing)
        for kind in (None, "s", "d"):
            self.refused(TooWide, ("names",), most_namesakes, wide, kind)
        self.refused(TooWide, ("states",), most_namesakes, Custom([Take("fff", Dead("fm")), Take("mm"), Free()], [Take("mmm", Never()), Free()]))


class RingSaidTest(AskCase):
    ROWS = [("comes", "a", "s", 1, ()), ("comes", "b", "d", 2, ()), ("weds", "a", "b"), ("born", "a", "b", "s", "c", 3)]

    def test_each_deed(self):
        # A son of the bearer's name, one of the father's, one of a new name, and the deaths of bearers.
        custom = Custom([Free()], [Take("f", Unborne()), Free("f")])
        record = Record(0, self.ROWS + [("born", "a", "b", "d", "e", 8), ("dies", "e")])
        ring = (("born", "s", 0, "bearer"), ("born", "s", 0, None), ("born", "d", 0, 0), ("bearers", 0))
        endless = Endless(record, "a", "b", "c", ring)
        self.assertIsNone(most_fault(custom, "s", endless))
        told = ring_said(custom, endless, 2)
        names = [row[5] if row[0] == "born" else row for row in told.rows[6:]]
        self.assertEqual(names[0], 3)
        self.assertNotIn(names[1], (1, 2, 3, 8))
        self.assertEqual(names[2], 1)
        self.assertEqual(names[3], ("dies", told.rows[8][4]))
        self.assertEqual((names[4], names[6]), (3, 1))
        self.assertNotIn(names[5], (1, 2, 3, 8, names[1]))
        self.assertEqual(names[7], ("dies", told.rows[12][4]))
        self.assertEqual(len(set(told.persons)), len(told.persons))

    def test_a_row_for_each_living_bearer(self):
        custom = Custom([Take("f", Dead("f")), Free()], [Take("f", Unborne()), Free()])
        rows = self.ROWS + [("born", "a", "b", "s", "e", 1), ("born", "a", "b", "d", "g", 1), ("born", "a", "b", "s", "h", 1), ("dies", "h")]
        ring = (("bearers", 0), ("born", "d", 0, 0), ("born", "s", 1, "bearer"))
        endless = Endless(Record(0, rows), "a", "b", "c", ring)
        self.assertIsNone(most_fault(custom, None, endless))
        told = ring_said(custom, endless, 2)
        self.assertEqual(told.rows[8:10], (("dies", "e"), ("dies", "g")))
        self.assertEqual(told.rows[12], ("dies", told.rows[10][4]))

    def test_the_bearers_name_is_a_class(self):
        # The bearer has the father's name; a place of the state has it, too.
        custom = Custom([Take("f"), Free()], LIVING)
        endless = Endless(Record(0, self.ROWS), "a", "b", "c", (("born", "s", 0, "bearer"), ("born", "s", 0, 0)))
        self.assertIsNone(most_fault(custom, None, endless))
        self.hold_endless(custom, None, endless)
        self.assertEqual([Naming(custom, ring_said(custom, endless, 3)).given_of(child) for child in ring_said(custom, endless, 3).children_of("a", "b")], [1] * 7)

    def test_said_often_and_too_often(self):
        endless = most_namesakes(PLAIN)
        self.assertEqual(ring_said(PLAIN, endless, 0), endless.record)
        each = len(ring_said(PLAIN, endless, 1)) - len(endless.record)
        many = (5000 - len(endless.record)) // each
        self.assertLessEqual(len(ring_said(PLAIN, endless, many)), 5000)
        for times in (many + 1, 5000, 10000):
            self.refused(TooLong, (times,), ring_said, PLAIN, endless, times)

    def test_labels_that_are_taken(self):
        rows = [("comes", "a", "s", 1, ()), ("comes", "b", "d", 2, ()), ("weds", "a", "b"), ("born", "a", "b", "s", "d", 3), ("comes", "c", "s", 0, ())]
        told = ring_said(PLAIN, Endless(Record(0, rows), "a", "b", "d", (("born", "s", 0, "bearer"), ("born", "d", 0, None))), 1)
        self.assertEqual(len(set(told.persons)), 6)
        self.assertEqual(told.rows[5][5], 3)
        self.assertNotIn(told.rows[6][5], (0, 1, 2, 3))

    def test_errors(self):
        endless = most_namesakes(PLAIN)
        wide = Custom([Take("fff"), Take("ffm"), Take("fmf"), Free()], FREE)
        for thing in ODD_THINGS + (-1, 10001, AlwaysEqual()):
            self.refused(BadAsked, ("times",), ring_said, wide, endless, thing)
        self.refused(TooWide, ("names",), ring_said, wide, endless, 1)
        self.refused(TooLong, (10000,), ring_said, PLAIN, endless, 10000)
