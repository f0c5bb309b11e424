"""Records that keep customs, and two customs side by side [9.1], [9.2], [9.4], [9.5]."""

import random

from namesakes.clauses import Alive, Dead, Free, Never, Number, Take, Unborne, Unlike
from namesakes.customs import Custom
from namesakes.errors import BadChoice, BadPair, BadWidth, TooWide
from namesakes.naming import Naming, fits
from namesakes.records import Record
from namesakes.scopes import Scope
from namesakes.states import CoupleState
from namesakes.tables import table_of
from namesakes.twocustoms import first_unkept, keeps_custom, let_names, pair_scope, write_choices
from tests.checks import Checks
from tests.families import ODD_THINGS, AlwaysEqual, chance_custom, chance_record
from tests.twos import chance_other, first_wrong

FREE = [Free()]
PLAIN = Custom(FREE, FREE)
ROWS = [("comes", "a", "s", 1, ()), ("comes", "b", "d", 2, ()), ("weds", "a", "b"), ("born", "a", "b", "s", "c", 3)]


class KeepsTest(Checks):
    def test_choices_that_are_not_the_name(self):
        takes = Custom([Take("f"), Free()], FREE)
        record = Record(0, ROWS)
        self.assertEqual((fits(takes, record), keeps_custom(takes, record), first_unkept(takes, record)), (True, False, "c"))
        right = Record(0, ROWS[:3] + [("born", "a", "b", "s", "c", 1)])
        self.assertEqual((keeps_custom(takes, right), first_unkept(takes, right)), (True, None))
        # A Take gives the name though the Free bars it.
        barred = Custom([Take("f"), Free("f")], FREE)
        self.assertTrue(keeps_custom(barred, right))
        barred = Custom([Free("f")], FREE)
        self.assertEqual((keeps_custom(barred, right), first_unkept(barred, right)), (False, "c"))

    def test_rows_behind_do_not_count(self):
        custom = Custom([Free("f")], [Take("m"), Free()])
        rows = ROWS + [("born", "a", "b", "d", "e", 9), ("born", "a", "b", "s", "g", 1), ("dies", "a")]
        self.assertEqual(first_unkept(custom, Record(0, rows)), "e")
        self.assertEqual(first_unkept(custom, Record(0, rows[:4])), None)
        rows[4] = ("born", "a", "b", "d", "e", 2)
        self.assertEqual(first_unkept(custom, Record(0, rows)), "g")
        # Founders and deaths never stop it.
        self.assertTrue(keeps_custom(custom, Record(0, rows[:3] + [("dies", "a"), ("dies", "b")])))
        self.assertTrue(keeps_custom(custom, Record(0)))

    def test_width(self):
        record = Record(1)
        self.assertIs(keeps_custom(PLAIN, record), False)
        self.refused(BadWidth, (1,), first_unkept, PLAIN, record)
        self.refused(BadWidth, (1,), write_choices, PLAIN, record)
        self.refused(BadWidth, (0,), write_choices, Custom(FREE, FREE, house=[("f", 0)]), Record(0))

    def test_write_choices(self):
        custom = Custom([Take("f"), Free()], [Free("m")], house=[("f", 0)])
        rows = [("comes", "a", "s", 1, (7,)), ("comes", "b", "d", 2, (8,)), ("weds", "a", "b"), ("born", "a", "b", "s", "c", 2), ("born", "a", "b", "d", "e", 5), ("dies", "c")]
        record = Record(1, rows)
        written = write_choices(custom, record)
        self.assertEqual(written.rows, tuple(rows[:3]) + (("born", "a", "b", "s", "c", 1),) + tuple(rows[4:]))
        self.assertEqual(Naming(custom, written), Naming(custom, record))
        self.refused(BadChoice, ("e", 2, 0), write_choices, custom, Record(1, rows[:4] + [("born", "a", "b", "d", "e", 2)]))

    def test_by_chance(self):
        rng = random.Random(901)
        for _ in range(80):
            custom = chance_custom(rng)
            record = chance_record(rng, custom, 20)
            written = write_choices(custom, record)
            naming = Naming(custom, record)
            self.assertEqual(Naming(custom, written), naming)
            self.assertTrue(all(row[5] == naming.given_of(row[4]) for row in written if row[0] == "born"))
            self.assertEqual([row[:5] if row[0] == "born" else row for row in written], [row[:5] if row[0] == "born" else row for row in record])
            self.assertTrue(keeps_custom(custom, written))
            for other in (custom, chance_other(rng, custom), chance_other(rng, custom)):
                for told in (record, written):
                    wrong = first_wrong(other, told)
                    self.assertEqual((first_unkept(other, told), keeps_custom(other, told)), (wrong, wrong is None))


class PairTest(Checks):
    def test_no_customs(self):
        for thing in ODD_THINGS + (Free(), AlwaysEqual()):
            self.refused(BadPair, (0, "custom"), pair_scope, thing, None)
            self.refused(BadPair, (1, "custom"), pair_scope, PLAIN, thing)

    def test_other_house_rules(self):
        one = Custom(FREE, FREE, house=[("f", 0), ("m", 1)], son_weds=["own", 0], daughter_weds=[0, "own"])
        self.assertEqual(pair_scope(one, Custom([Free("f")], FREE, house=one.house, son_weds=one.son_weds, daughter_weds=one.daughter_weds)).width, 2)
        for change in ({"house": [("f", 0), ("m", 0)]}, {"son_weds": ["own", "own"]}, {"daughter_weds": [1, "own"]}, {"son_weds": None}):
            kept = {"house": one.house, "son_weds": one.son_weds, "daughter_weds": one.daughter_weds, **change}
            self.refused(BadPair, (1, "house"), pair_scope, one, Custom(FREE, FREE, **kept))
        self.refused(BadPair, (1, "house"), pair_scope, one, PLAIN)
        self.refused(BadPair, (1, "house"), pair_scope, PLAIN, Custom(FREE, FREE, house=[("f", 0)]))
        # Wedding rules that are written out or not are equal.
        self.assertEqual(pair_scope(Custom(FREE, FREE, house=[("f", 0)]), Custom(FREE, FREE, house=[["f", 0]], son_weds=["own"])).tracked, ())
        # Wrong pairs go ahead of wide ones.
        wide = Custom([Take("fff"), Take("ffm"), Take("fmf"), Free()], FREE)
        self.refused(BadPair, (1, "house"), pair_scope, wide, one)
        self.refused(BadPair, (1, "custom"), pair_scope, wide, None)

    def test_too_wide(self):
        wide = Custom([Take("fff"), Take("ffm"), Take("fmf"), Free()], FREE)
        self.refused(TooWide, ("names",), pair_scope, PLAIN, wide)
        self.refused(TooWide, ("names",), pair_scope, wide, PLAIN)
        self.refused(TooWide, ("lives",), pair_scope, Custom([Take("f", Dead("ff"), Dead("fm")), Free()], FREE), Custom([Take("f", Dead("fff")), Free()], FREE))
        one, other = Custom([Take("f"), Take("m"), Free()], FREE), Custom([Take("ff"), Free()], FREE)
        self.assertEqual(pair_scope(one, other).tracked, ())
        self.refused(TooWide, ("tracked",), pair_scope, one, Custom([Take("ff"), Free("living")], FREE))
        self.refused(TooWide, ("tracked",), pair_scope, Custom([Take("f"), Take("m"), Free()], [Free("ever")]), other)

    def test_sources(self):
        def scope(one, other):
            told = pair_scope(one, other)
            self.assertEqual((told.customs, told.also, told.houses), ((one, other), (), False))
            self.assertEqual(told, Scope(one, other, tracked=told.tracked, followed=told.followed))
            self.assertIs(type(told), Scope)
            return told.tracked, told.followed

        takes = Custom([Take("ff"), Free()], [Take("m"), Free()])
        self.assertEqual(scope(takes, PLAIN), ((), False))
        self.assertEqual(scope(takes, Custom([Take("m", Unborne()), Free("f")], FREE)), ((), False))
        for bars in (("living",), ("f", "ever")):
            self.assertEqual(scope(takes, Custom(FREE, [Free(*bars)])), (("ff", "m"), True))
            self.assertEqual(scope(Custom([Free(*bars)], FREE), takes), (("ff", "m"), True))
            barred = Custom([Take("m"), Free()], [Take("ff"), Free(*bars)])
            self.assertEqual(scope(barred, barred), (("m", "ff"), False))
            self.assertEqual(scope(barred, Custom([Take("m"), Free("m")], [Take("m"), Take("ff"), Free("f", *bars)])), (("m", "ff"), False))
        # The order is that of the customs, sons ahead of daughters; what stands twice is told once.
        self.assertEqual(scope(Custom([Free("ever")], [Take("m"), Free()]), Custom([Take("ff"), Take("m"), Free("ever")], FREE)), (("m", "ff"), False))
        self.assertEqual(scope(Custom([Free("ever")], FREE), Custom([Free("living")], FREE)), ((), True))
        self.assertEqual(scope(Custom([Free("ever")], FREE), Custom(FREE, [Free("ever")])), ((), True))
        self.assertEqual(scope(Custom([Free("ever", "living")], FREE), Custom([Free("living", "ever")], FREE)), ((), False))
        self.assertEqual(scope(Custom([Free("ever", "living")], FREE), Custom([Free("ever")], FREE)), ((), True))

    def test_births_are_those_of_the_first(self):
        one, other = Custom([Take("f"), Free()], FREE), Custom([Take("m"), Free()], FREE)
        couple = CoupleState((0, 1), (), 0, 0, ())
        for first, second in ((one, other), (other, one)):
            self.assertEqual(pair_scope(first, second).custom_for(couple, "s"), first)


class LetTest(Checks):
    def test_takes_and_frees(self):
        one = Custom([Take("f"), Free("f")], [Free("f", "m")])
        other = Custom([Take("ff", Unlike("f", "m")), Free("m")], FREE)
        scope = pair_scope(one, other)
        self.assertEqual([scope.places(kind) for kind in "sd"], [("", "f"), ("",)])
        apart = CoupleState((0, 1, 2), (), 0, 0, ())
        self.assertEqual([let_names(scope, one, apart, kind) for kind in "sd"], [(0,), (1, None)])
        self.assertEqual([let_names(scope, other, apart, kind) for kind in "sd"], [(1,), (0, 1, 2, None)])
        alike = CoupleState((0, 1, 0), (), 0, 0, ())
        self.assertEqual([let_names(scope, one, alike, kind) for kind in "sd"], [(0,), (1, None)])
        self.assertEqual([let_names(scope, other, alike, kind) for kind in "sd"], [(1, None), (0, 1, None)])
        nobody = CoupleState((0, None, 1), (), 0, 0, ())
        self.assertEqual([let_names(scope, other, nobody, kind) for kind in "sd"], [(0, None), (0, 1, None)])

    def test_tracked_classes(self):
        one = Custom([Take("f", Unborne()), Free("living")], [Free("ever")])
        other = Custom([Take("f", Never()), Free()], FREE)
        scope = pair_scope(one, other)
        self.assertEqual((scope.reads.tracked, scope.followed), (("f",), True))
        for mark, of_one, of_other in ((0, (0,), (0,)), (1, (0,), (0, None)), (2, (None,), (0, None))):
            couple = CoupleState((0,), (), 0, 0, ((0, mark), (1, 0)))
            self.assertEqual(let_names(scope, one, couple, "s"), of_one)
            self.assertEqual(let_names(scope, other, couple, "s"), of_other)
            self.assertEqual(let_names(scope, one, couple, "d"), (0, None) if mark == 0 else (None,))
            self.assertEqual(let_names(scope, other, couple, "d"), (0, None))

    def test_followed_names(self):
        one = Custom([Free("living")], [Free("ever")])
        scope = pair_scope(one, PLAIN)
        for mark, sons, daughters in ((0, (None,), (None,)), (1, (0, None), (None,)), (2, (None,), (None,))):
            couple = CoupleState((), (), 0, 0, ((0, mark),))
            self.assertEqual(let_names(scope, one, couple, "s"), sons)
            self.assertEqual(let_names(scope, one, couple, "d"), daughters)
            self.assertEqual(let_names(scope, PLAIN, couple, "d"), (None,) if mark == 0 else (0, None))
        # A scope that follows no name tells of none.
        scope = pair_scope(one, one)
        self.assertEqual(let_names(scope, one, CoupleState((), (), 0, 0, ()), "s"), (None,))

    def test_numbers_and_lives(self):
        one = Custom([Take("f", Number(2)), Free()], [Take("m", Dead("mf")), Take("m", Alive("mm")), Free("m")])
        scope = pair_scope(one, PLAIN)
        for sons, told in ((0, (0, 1, None)), (1, (0,)), (2, (0, 1, None))):
            self.assertEqual(let_names(scope, one, CoupleState((0, 1), ("alive", None), sons, 0, ()), "s"), told)
        for lives, told in ((("dead", "dead"), (1,)), (("alive", "dead"), (0, None)), ((None, "alive"), (1,)), ((None, None), (0, None))):
            self.assertEqual(let_names(scope, one, CoupleState((0, 1), lives, 0, 0, ()), "d"), told)

    def test_as_allows_tells(self):
        rng = random.Random(902)
        for _ in range(30):
            one = chance_custom(rng, 0, most=1)
            try:
                scope = pair_scope(one, chance_other(rng, one, 1))
                couples = table_of(scope).couples
            except TooWide:
                continue
            for couple in couples[:40]:
                for custom in scope.customs:
                    for kind in "sd":
                        told = let_names(scope, custom, couple, kind)
                        numbers = [number for number in told if number is not None]
                        self.assertEqual(numbers, sorted(numbers))
                        self.assertNotIn(None, told[:-1])
                        self.assertIs(type(told), tuple)
