"""Lands in all families [9.10] to [9.12]."""

import random

from namesakes.alikes import namesakes_among
from namesakes.clauses import Free, Never, Number, Take, Unborne
from namesakes.closing import is_closed
from namesakes.customs import Custom
from namesakes.errors import BadPair, TooWide
from namesakes.lands import Land, LandNaming
from namesakes.landtables import LandFamily, LandNever, LandParted, land_scope, land_siblings, land_siblings_fault, land_within
from namesakes.records import Record
from namesakes.scopes import Scope
from namesakes.states import CoupleState, PersonState
from namesakes.tables import Table, table_of
from namesakes.twocustoms import first_unkept, keeps_custom
from namesakes.within import Within, is_custom_within
from tests.checks import Checks
from tests.families import ODD_THINGS, AlwaysEqual
from tests.twos import DECIDES, chance_other, chance_pair, kept_record, plain_namesakes

FREE = [Free()]
PLAIN = Custom(FREE, FREE)
BARRED = Custom([Free("living")], [Free("living")])
FATHERS = Custom([Take("f", Unborne()), Free("living")], [Free("living")])
MOTHERS = Custom([Free("living")], [Take("m", Unborne()), Free("living")])
ROWS = [("comes", "a", "s", 1, ()), ("comes", "b", "d", 2, ()), ("weds", "a", "b"), ("born", "a", "b", "s", "c", 3), ("born", "a", "b", "s", "e", 3)]


class ResultsTest(Checks):
    def test_results(self):
        self.assertEqual((LandNever(5).table, LandNever(table=5)), (5, LandNever(5)))
        self.unlike_all(LandNever(5), LandNever(6), Within(5), 5)
        family = LandFamily(1, 2, 3, 4)
        self.assertEqual((family.record, family.second, family.one, family.other, family), (1, 2, 3, 4, LandFamily(record=1, second=2, one=3, other=4)))
        self.unlike_all(family, LandFamily(0, 2, 3, 4), LandFamily(1, 0, 3, 4), LandFamily(1, 2, 0, 4), LandFamily(1, 2, 3, 0), (1, 2, 3, 4))
        parted = LandParted(1, 2)
        self.assertEqual((parted.record, parted.second, parted), (1, 2, LandParted(second=2, record=1)))
        self.unlike_all(parted, LandParted(0, 2), LandParted(1, 0), (1, 2))


class ScopeTest(Checks):
    def test_sides_are_marks(self):
        for decides, sons, daughters in (("father", 0, 0), ("mother", 1, 1), ("child", 0, 1)):
            scope = land_scope(Land(FATHERS, MOTHERS, decides))
            for marks in ((0, 1), (1, 0), (0, 0), (1, 1)):
                couple = CoupleState((0, 1), (), 0, 0, (), marks)
                for kind, parent in (("s", sons), ("d", daughters)):
                    self.assertEqual(scope.child_mark(couple, kind), marks[parent])
                    self.assertEqual(scope.custom_for(couple, kind), (FATHERS, MOTHERS)[marks[parent]])
            self.assertEqual([scope.first_marks(kind) for kind in "sd"], [(0, 1), (0, 1)])
            self.assertEqual([scope.wedding_custom("s", mark).wedding_rules("s") for mark in (0, 1)], [(), ()])
            self.assertEqual(scope.customs, (FATHERS, MOTHERS))
            self.assertIsInstance(scope, Scope)

    def test_what_is_read(self):
        for more in ((), (Custom([Take("ff"), Free()], FREE),)):
            scope = land_scope(Land(FATHERS, PLAIN, "father"), *more)
            plain = Scope(FATHERS, PLAIN, *more, tracked=scope.tracked)
            self.assertEqual((scope.customs, scope.reads, scope.followed, scope.also, scope.houses), (plain.customs, plain.reads, False, (), False))
        takes, more = Custom([Take("f"), Free()], [Take("m"), Free()]), Custom([Take("ff"), Free("ever")], FREE)
        self.assertEqual(land_scope(Land(takes, PLAIN, "father")).tracked, ())
        self.assertEqual(land_scope(Land(takes, PLAIN, "father"), tracked=["m"]).tracked, ("m",))
        narrow = Custom([Take("f"), Free("ever")], FREE)
        self.assertEqual(land_scope(Land(takes, narrow, "father"), tracked=("m",)).tracked, ("m", "f"))
        self.assertEqual(land_scope(Land(takes, narrow, "father")).tracked, ("f", "m"))
        self.assertEqual(land_scope(Land(narrow, PLAIN, "father"), more, tracked=["ff"], followed=True).tracked, ("ff", "f"))
        self.assertIs(land_scope(Land(narrow, PLAIN, "father"), followed=True).followed, True)
        self.refused(TooWide, ("tracked",), land_scope, Land(takes, PLAIN, "father"), more)

    def test_equality(self):
        land = Land(FATHERS, MOTHERS, "father")
        scope = land_scope(land)
        self.assertEqual(scope, land_scope(Land(FATHERS, MOTHERS, "father"), tracked=[], followed=False))
        self.assertEqual(land_scope(land, PLAIN, tracked=("f",)), land_scope(land, PLAIN, tracked=["f"]))
        # What is asked for is compared, also where what is tracked is the same.
        self.assertEqual(land_scope(land, tracked=("f",)).tracked, scope.tracked)
        self.unlike_all(scope, land_scope(land, tracked=("f",)), land_scope(land, followed=True), land_scope(land, PLAIN), land_scope(Land(FATHERS, MOTHERS, "mother")),
                        land_scope(Land(MOTHERS, FATHERS, "father")), Scope(FATHERS, MOTHERS, tracked=scope.tracked), land, None)
        self.unlike_all(land_scope(land, PLAIN), land_scope(land, BARRED), land_scope(land, PLAIN, PLAIN))
        self.assertFalse(Scope(FATHERS, MOTHERS, tracked=scope.tracked) == scope)

    def test_errors(self):
        land = Land(PLAIN, PLAIN, "father")
        for thing in ODD_THINGS + (Free(), AlwaysEqual()):
            self.refused(BadPair, (0, "custom"), land_scope, land, thing)
            self.refused(BadPair, (1, "custom"), land_scope, land, PLAIN, thing, None)
        housed = Custom(FREE, FREE, house=[("f", 0)])
        self.refused(BadPair, (0, "house"), land_scope, land, housed)
        self.refused(BadPair, (1, "house"), land_scope, land, PLAIN, housed)
        self.refused(BadPair, (0, "house"), land_scope, Land(housed, housed, "father"), PLAIN)
        wide = Custom([Take("fff"), Take("ffm"), Take("fmf"), Free()], FREE)
        self.refused(TooWide, ("names",), land_scope, land, wide)
        self.refused(BadPair, (1, "house"), land_scope, land, wide, housed)
        self.refused(TooWide, ("names",), land_scope, Land(PLAIN, wide, "father"))

    def test_tables(self):
        land = Land(FATHERS, PLAIN, "mother")
        table = table_of(land_scope(land))
        self.assertTrue(is_closed(table))
        self.assertEqual({person.mark for person in table.persons}, {0, 1})
        self.assertEqual({couple.marks for couple in table.couples}, {(0, 0), (0, 1), (1, 0), (1, 1)})


class SiblingsCase(Checks):
    def never(self, land):
        """Ask, hold the answer against judge and rows, and return whether they never are namesakes."""
        result = land_siblings(land)
        self.assertIsNone(land_siblings_fault(land, result))
        if isinstance(result, LandNever):
            sources = dict.fromkeys(take.source for custom in land.customs for take in custom.sons[:-1] + custom.daughters[:-1])
            self.assertEqual(result, LandNever(table_of(land_scope(land, tracked=tuple(sources), followed=True))))
            return True
        naming = LandNaming(land, result.record, result.second)
        self.assertIn((result.one, result.other), plain_namesakes(result.record, naming.given_of))
        self.assertEqual(result.record.rows[-1][4], result.other)
        self.assertEqual(type(result.second), tuple)
        return False

    def keeps(self, land, custom):
        """Whether the land is within the custom; a record in which it parts is held against the rows."""
        result = land_within(land, custom)
        if isinstance(result, Within):
            self.assertTrue(is_closed(result.table))
            return True
        self.assertIs(type(result), LandParted)
        naming = LandNaming(land, result.record, result.second)
        self.assertTrue(all(row[5] == naming.given_of(row[4]) for row in result.record if row[0] == "born"))
        self.assertEqual(first_unkept(custom, result.record), result.record.rows[-1][4])
        return False


class SiblingsTest(SiblingsCase):
    def test_never(self):
        self.assertTrue(self.never(Land(BARRED, BARRED, "father")))
        self.assertTrue(self.never(Land(FATHERS, BARRED, "child")))
        self.assertTrue(self.never(Land(Custom([Free("ever")], [Free("ever")]), BARRED, "mother")))

    def test_families(self):
        for one, other in ((PLAIN, BARRED), (BARRED, PLAIN), (PLAIN, PLAIN), (Custom([Take("f"), Free("living")], BARRED.daughters), BARRED)):
            for decides in DECIDES:
                self.assertFalse(self.never(Land(one, other, decides)))

    def test_neither_custom_has_them_but_the_land_has(self):
        # The sons' side gives the first son's name to nobody else, the daughters' side to any first daughter.
        one = Custom([Take("f", Number(1)), Free("f", "ever")], [Free("f", "ever")])
        other = Custom([Free("f", "ever")], [Take("f", Number(1)), Free("f", "ever")])
        for custom in (one, other):
            for decides in DECIDES:
                self.assertTrue(self.never(Land(custom, custom, decides)))
        self.assertEqual([self.never(Land(one, other, decides)) for decides in DECIDES], [True, True, False])
        self.assertFalse(self.never(Land(one, other, "child")))
        result = land_siblings(Land(one, other, "child"))
        naming = LandNaming(Land(one, other, "child"), result.record, result.second)
        self.assertEqual([naming.side_of(result.one), naming.side_of(result.other)].count(1), 1)

    def test_too_wide(self):
        wide = Custom([Take("fff"), Take("ffm"), Take("fmf"), Free()], FREE)
        for land in (Land(wide, PLAIN, "father"), Land(PLAIN, wide, "child")):
            self.refused(TooWide, ("names",), land_siblings, land)
            self.refused(TooWide, ("names",), land_siblings_fault, land, None)
            self.refused(TooWide, ("names",), land_within, land, PLAIN)
        three = Land(Custom([Take("f"), Take("m"), Free()], FREE), Custom([Take("ff"), Free()], FREE), "father")
        self.refused(TooWide, ("tracked",), land_siblings, three)
        self.refused(TooWide, ("tracked",), land_siblings_fault, three, LandNever(None))
        strict = Custom([Take("ff", Number(1)), Free("ff", "ever")], [Free("ff", "ever")])
        self.refused(TooWide, ("states",), land_siblings, Land(strict, strict.mirrored(), "child"))
        self.assertEqual(land_siblings_fault(Land(strict, strict.mirrored(), "child"), None), "sort")

    def test_sort(self):
        land = Land(BARRED, BARRED, "father")
        table = table_of(land_scope(land, followed=True))
        self.assertIsNone(land_siblings_fault(land, LandNever(table)))
        for thing in ODD_THINGS + (AlwaysEqual(), table, Within(table), LandParted(Record(0), ())):
            self.assertEqual(land_siblings_fault(land, thing), "sort")

    def test_words_against_a_paper(self):
        land = Land(FATHERS, BARRED, "child")
        scope = land_scope(land, tracked=("f",), followed=True)
        table = table_of(scope)
        self.assertIsNone(land_siblings_fault(land, LandNever(table)))
        self.assertIsNone(land_siblings_fault(land, LandNever(Table(scope, tuple(reversed(table.states))))))
        for wrong in (Scope(FATHERS, BARRED, tracked=("f",), followed=True), land_scope(land, tracked=("f",)), land_scope(Land(FATHERS, BARRED, "father"), tracked=("f",), followed=True),
                      land_scope(land, tracked=("f", "m"), followed=True), land_scope(land, PLAIN, tracked=("f",), followed=True)):
            self.assertEqual(land_siblings_fault(land, LandNever(Table(wrong, []))), "scope")
        for state in table.states[::5] + table.persons[:2]:
            self.assertEqual(land_siblings_fault(land, LandNever(table.without(state))), "step")
        for custom in (PLAIN, Custom([Take("f"), Free("living")], BARRED.daughters), Custom([Free("living")], FREE)):
            clashing = Land(custom, BARRED, "child")
            sources = tuple(take.source for take in custom.sons[:-1])
            self.assertEqual(land_siblings_fault(clashing, LandNever(table_of(land_scope(clashing, tracked=sources, followed=True)))), "clash")

    def test_words_against_a_family(self):
        land = Land(PLAIN, BARRED, "father")

        def fault(rows, second, one, other, width=0):
            return land_siblings_fault(land, LandFamily(Record(width, rows), second, one, other))

        self.assertIsNone(fault(ROWS, (), "c", "e"))
        self.assertIsNone(fault(ROWS, ("b",), "c", "e"))
        for second in (("a",), ("c",), ("b", "b"), ("x",), "b", None, 5, {"b": 1}, ("b", None), AlwaysEqual()):
            self.assertEqual(fault(ROWS, second, "c", "e"), "second", second)
        self.assertEqual(fault([("comes", "a", "s", 1, (5,))], (), "c", "e", 1), "second")
        for rows, other in ((ROWS, "c"), (ROWS + [("dies", "a")], "e"), (ROWS[:3], "e"), ([], "e"), (ROWS, "x"), (ROWS[:4], "e"), (ROWS, "a")):
            self.assertEqual(fault(rows, (), "c", other), "last", (rows, other))
        for thing in ODD_THINGS + (AlwaysEqual(),):
            self.assertEqual(fault(ROWS, (), "c", thing), "last")
        # The father need not live.
        self.assertEqual(fault(ROWS[:4] + [("born", "a", "b", "s", "e", 4)], (), "c", "e"), "pair")
        self.assertEqual(fault(ROWS[:4] + [("dies", "c")] + ROWS[4:], (), "c", "e"), "pair")
        for one in ("e", "a", "x", None):
            self.assertEqual(fault(ROWS, (), one, "e"), "pair")
        more = ROWS + [("born", "a", "b", "d", "g", 3)]
        self.assertEqual([fault(more, (), one, "g") for one in "ce"], [None, None])
        half = ROWS[:4] + [("dies", "b"), ("comes", "k", "d", 9, ()), ("weds", "a", "k"), ("born", "a", "k", "s", "e", 3)]
        self.assertEqual(fault(half, (), "c", "e"), "pair")

    def test_the_clause_that_names_is_that_of_the_side(self):
        land = Land(Custom([Take("f", Unborne()), Free("living")], [Free("living")]), Custom([Take("f"), Free()], [Free("living")]), "mother")
        result = land_siblings(land)
        naming = LandNaming(land, result.record, result.second)
        self.assertEqual({naming.side_of(result.one), naming.side_of(result.other)}, {1})


class WithinTest(SiblingsCase):
    def test_ordinary(self):
        ever = Custom([Free("ever")], [Free("ever")])
        for decides in DECIDES:
            self.assertTrue(self.keeps(Land(BARRED, ever, decides), BARRED))
            self.assertTrue(self.keeps(Land(BARRED, ever, decides), PLAIN))
            self.assertFalse(self.keeps(Land(BARRED, ever, decides), ever))
            self.assertFalse(self.keeps(Land(ever, BARRED, decides), ever))
            self.assertTrue(self.keeps(Land(ever, ever, decides), ever))
            self.assertTrue(self.keeps(Land(FATHERS, MOTHERS, decides), BARRED))
            self.assertFalse(self.keeps(Land(FATHERS, MOTHERS, decides), FATHERS))

    def test_both_customs_are_within_but_not_the_land(self):
        # Each custom gives the father's name but once; in the land a son and a daughter can have it.
        one = Custom([Take("f", Number(1)), Free("f", "ever")], [Free("f", "ever")])
        other = Custom([Free("f", "ever")], [Take("f", Number(1)), Free("f", "ever")])
        whole = Custom([Take("f", Never(), Number(1)), Free("ever")], [Take("f", Never(), Number(1)), Free("ever")])
        both = Custom([Free("ever")], [Free("ever")])
        self.assertEqual((is_custom_within(one, both), is_custom_within(other, both)), (True, True))
        self.assertEqual([self.keeps(Land(one, other, decides), both) for decides in DECIDES], [True, True, False])
        self.assertFalse(self.keeps(Land(one, one, "father"), whole))

    def test_the_table(self):
        ever = Custom([Free("ever")], FREE)
        takes = Custom([Take("f"), Free()], FREE)
        for customs, tracked, followed in (((takes, takes, takes), (), False), ((takes, takes, PLAIN), (), False), ((ever, ever, ever), (), False), ((PLAIN, PLAIN, ever), (), True),
                                           ((takes, PLAIN, ever), ("f",), True), ((ever, PLAIN, PLAIN), (), True), ((PLAIN, ever, takes), ("f",), True)):
            for decides in DECIDES:
                land = Land(customs[0], customs[1], decides)
                result = land_within(land, customs[2])
                if isinstance(result, Within):
                    self.assertEqual(result, Within(table_of(land_scope(land, customs[2], tracked=tracked, followed=followed))))
                else:
                    self.keeps(land, customs[2])

    def test_founders_behind_the_last_row_are_left_out(self):
        land = Land(PLAIN, BARRED, "child")
        rng = random.Random(907)
        for _ in range(20):
            custom = chance_other(rng, PLAIN, 2)
            try:
                result = land_within(land, custom)
            except TooWide:
                continue
            if isinstance(result, LandParted):
                self.assertTrue(set(result.second) <= set(result.record.founders))
                LandNaming(land, result.record, result.second)

    def test_errors(self):
        land = Land(PLAIN, PLAIN, "father")
        for thing in ODD_THINGS + (AlwaysEqual(), land):
            self.refused(BadPair, (0, "custom"), land_within, land, thing)
        self.refused(BadPair, (0, "house"), land_within, land, Custom(FREE, FREE, house=[("f", 0)]))
        wide = Custom([Take("fff"), Take("ffm"), Take("fmf"), Free()], FREE)
        self.refused(BadPair, (0, "custom"), land_within, Land(wide, PLAIN, "father"), None)
        self.refused(TooWide, ("names",), land_within, land, wide)


class ChanceTest(SiblingsCase):
    def test_against_records(self):
        rng = random.Random(908)
        found = {"never": 0, "family": 0, "within": 0, "parted": 0}
        for _ in range(90):
            customs = chance_pair(rng, 1)
            if rng.random() < 0.5:
                customs = [Custom([*custom.sons[:-1], Free("ever")], [*custom.daughters[:-1], Free("living")], house=custom.house, son_weds=custom.son_weds,
                                  daughter_weds=custom.daughter_weds) for custom in customs]
            land = Land(*customs, rng.choice(DECIDES))
            third = rng.choice([chance_other(rng, customs[0], 1), customs[0], Custom(FREE, FREE, house=customs[0].house, son_weds=customs[0].son_weds, daughter_weds=customs[0].daughter_weds)])
            never, within = self.asked(self.never, land), self.asked(self.keeps, land, third)
            found["never"] += never is True
            found["family"] += never is False
            found["within"] += within is True
            found["parted"] += within is False
            for _ in range(8):
                record, second = kept_record(rng, customs, land.decides, rng.randint(5, 20), rng.choice([2, 4, 30]))
                naming = LandNaming(land, record, second)
                if never:
                    self.assertEqual(plain_namesakes(record, naming.given_of), ())
                if within:
                    self.assertTrue(keeps_custom(third, record))
            if never is not None:
                self.assertEqual(self.asked(self.never, land.mirrored()), never)
            if within is not None:
                self.assertEqual(self.asked(self.keeps, land.mirrored(), third.mirrored()), within)
                if within:
                    self.assertTrue(all(self.asked(is_custom_within, custom, third) is not False for custom in customs))
        self.assertGreater(min(found.values()), 5, found)

    def asked(self, ask, *things):
        try:
            return ask(*things)
        except TooWide:
            return None

    def test_persons_of_either_side(self):
        land = Land(Custom([Take("f"), Free("f")], FREE), Custom(FREE, FREE), "mother")
        table = table_of(land_scope(land))
        self.assertEqual([PersonState("s", (0,), (), mark) in table for mark in (0, 1, 2)], [True, True, False])
