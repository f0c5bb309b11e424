"""The judge of the greatest number of namesakes among siblings [6.6]."""

from namesakes.clauses import Dead, Free, Number, Take, Unborne
from namesakes.customs import Custom
from namesakes.errors import BadAsked, TooWide
from namesakes.families import Endless, Most
from namesakes.records import Record
from namesakes.ringjudge import most_fault
from namesakes.rings import most_namesakes
from namesakes.scopes import Scope
from namesakes.states import CoupleState
from namesakes.tables import Table, table_of
from tests.checks import Checks
from tests.families import ODD_THINGS, AlwaysEqual

FREE = [Free()]
LIVING = [Free("living")]
PLAIN = Custom(FREE, FREE)
BARRED = Custom(LIVING, LIVING)
ROWS = [("comes", "a", "s", 1, ()), ("comes", "b", "d", 2, ()), ("weds", "a", "b"), ("born", "a", "b", "s", "c", 1),
        ("born", "a", "b", "d", "e", 3), ("born", "a", "b", "s", "g", 1), ("born", "a", "b", "s", "h", 4)]


class AskedTest(Checks):
    def test_what_is_asked_goes_first(self):
        wide = Custom([Take("fff"), Take("ffm"), Take("fmf"), Free()], FREE)
        result = Most(1, Record(1), (), None, ())
        for thing in [thing for thing in ODD_THINGS if thing is not None] + ["ss", "any", AlwaysEqual()]:
            self.refused(BadAsked, ("kind",), most_fault, wide, thing, result)
        for kind in (None, "s", "d"):
            self.refused(TooWide, ("names",), most_fault, wide, kind, result)


class MostWordsTest(Checks):
    def setUp(self):
        self.custom = Custom([Take("f", Number(1)), Take("f", Number(2)), Free("f", "living")], [Free("f", "living")])
        self.most = most_namesakes(self.custom)

    def fault(self, kind=None, **changes):
        told = {"number": self.most.number, "record": self.most.record, "bearers": self.most.bearers, "table": self.most.table, "prices": self.most.prices, **changes}
        return most_fault(self.custom, kind, Most(**told))

    def test_the_result_itself(self):
        self.assertEqual((self.fault(), self.most.number), (None, 2))

    def test_records_and_bearers(self):
        record = Record(0, ROWS)
        for bearers, word in ((("c", "g"), None), (("g", "c"), "bearers"), (("c",), "bearers"), (("c", "g", "h"), "bearers"), (("c", "c"), "bearers"), (("c", "h"), "bearers"),
                              (("c", "x"), "bearers"), (("a", "c"), "bearers"), (("c", "e"), "bearers"), ((), "bearers"), (("x", "c"), "bearers"), (("a", "b"), "bearers")):
            self.assertEqual(self.fault(record=record, bearers=bearers), word, bearers)
            self.assertEqual(self.fault("s", record=record, bearers=bearers), word, bearers)
        self.assertEqual(self.fault("d", record=record, bearers=("c", "g")), "bearers")
        self.assertEqual(self.fault(record=record.after(("dies", "g")), bearers=("c", "g")), "bearers")
        self.assertEqual(self.fault(record=record.after(("dies", "a")), bearers=("c", "g")), None)
        self.assertEqual(self.fault(record=Record(0, ROWS[:3]), bearers=("a",), number=1), "bearers")
        self.assertEqual(self.fault(record=record, bearers=(), number=0), "bearers")
        self.assertEqual(self.fault(record=record, bearers=("c",), number=1), "first")
        self.assertEqual(self.fault(record=Record(1), bearers=()), "record")
        self.assertEqual(self.fault(record=Record(0, ROWS[:4] + [("born", "a", "b", "d", "e", 1)]), bearers=("c", "x")), "record")
        half = ROWS[:4] + [("dies", "b"), ("comes", "k", "d", 9, ()), ("weds", "a", "k"), ("born", "a", "k", "s", "l", 1)]
        self.assertEqual(self.fault(record=Record(0, half), bearers=("c", "l")), "bearers")

    def test_tables(self):
        for state in self.most.table.states[::4]:
            self.assertEqual(self.fault(table=self.most.table.without(state)), "table")
        for scope in (Scope(PLAIN), Scope(self.custom, self.custom), Scope(self.custom, followed=True)):
            self.assertEqual(self.fault(table=table_of(scope)), "table")
        backwards = Table(self.most.table.scope, tuple(reversed(self.most.table.states)))
        self.assertIsNone(self.fault(table=backwards, prices=tuple(reversed(self.most.prices))))

    def test_prices(self):
        prices = self.most.prices
        for thing in ODD_THINGS + (-1, AlwaysEqual()):
            wrong = (prices[0][:2] + (thing,),) + prices[1:]
            self.assertEqual(self.fault(prices=wrong), "price")
            # Of several entries with one name and state the first counts.
            self.assertIsNone(self.fault(prices=prices + (prices[0][:2] + (thing,),)))
        stranger = CoupleState((0, 1), (), 0, 0, ((0, 2),), (5, 5))
        self.assertIsNone(self.fault(prices=((0, stranger, -1), (0, stranger, "x")) + prices))
        self.assertEqual(self.fault(prices=((0, stranger, -1), prices[0][:2] + (-1,)) + prices), "price")
        self.assertEqual(self.fault(prices=(prices[0][:2] + (prices[0][2] + 5,),) + prices), "first")

    def test_entries_left_out_and_prices_too_small(self):
        prices = self.most.prices
        words = set()
        for at, (name, couple, price) in enumerate(prices):
            words.add(self.fault(prices=prices[:at] + prices[at + 1:]))
            if price > 0:
                self.assertEqual(self.fault(prices=prices[:at] + ((name, couple, price - 1),) + prices[at + 1:]), "step")
        self.assertEqual(words, {"first", "step"})
        self.assertEqual(self.fault(prices=()), "first")
        # Greater prices are let, if the number still is not passed.
        higher = tuple((name, couple, 10 ** 40) for name, couple, _ in prices)
        self.assertEqual(self.fault(prices=higher), "first")

    def test_a_number_that_is_too_great(self):
        # Three such children never come; with fewer the prices are over the number.
        record = Record(0, ROWS)
        self.assertEqual(self.fault(number=3, record=record, bearers=("c", "g", "h")), "bearers")
        self.assertEqual(self.fault(number=1, record=record, bearers=("c",)), "first")
        # Where only daughters count, nobody is priced but their new names.
        daughters = most_namesakes(self.custom, "d")
        self.assertEqual((daughters.number, most_fault(self.custom, "d", daughters)), (1, None))
        self.assertEqual(most_fault(self.custom, None, daughters), "first")
        loose = tuple((name, couple, price + 7) for name, couple, price in self.most.prices)
        self.assertEqual(self.fault(prices=loose), "first")

    def test_greater_prices_that_are_let(self):
        # A new name is never given again; a price for it may be greater than it must.
        looser = tuple((name, couple, 1 if name is None else price) for name, couple, price in self.most.prices)
        self.assertNotEqual(looser, self.most.prices)
        self.assertIsNone(self.fault(prices=looser))
        self.assertEqual(self.fault(prices=tuple((name, couple, 2 if name is None else price) for name, couple, price in self.most.prices)), "first")


class EndlessWordsTest(Checks):
    RING = (("born", "s", 0, "bearer"),)

    def fault(self, custom=PLAIN, kind=None, rows=None, father="a", mother="b", bearer="c", ring=RING, width=0):
        record = Record(width, ROWS[:5] if rows is None else rows)
        return most_fault(custom, kind, Endless(record, father, mother, bearer, ring))

    def test_right_ones(self):
        self.assertIsNone(self.fault())
        self.assertIsNone(self.fault(kind="s"))
        self.assertIsNone(self.fault(bearer="e", kind="d", ring=(("born", "d", 0, "bearer"), ("born", "s", 0, None))))
        self.assertIsNone(self.fault(kind="s", ring=(("born", "d", 0, "bearer"), ("born", "s", 0, "bearer"))))

    def test_record_couple_and_bearer(self):
        self.assertEqual(self.fault(BARRED, rows=ROWS), "record")
        self.assertEqual(self.fault(rows=[("comes", "a", "s", 1, (2,))], width=1), "record")
        self.assertEqual(self.fault(rows=ROWS[:2]), "couple")
        self.assertEqual(self.fault(rows=ROWS[:5] + [("dies", "b")]), "couple")
        for father, mother in (("b", "a"), ("x", "b"), ("a", "x"), ("a", "e"), ("c", "b")):
            self.assertEqual(self.fault(father=father, mother=mother, bearer="x"), "couple")
        for bearer in ("x", "a", "b"):
            self.assertEqual(self.fault(bearer=bearer, ring=("odd",)), "bearer")
        self.assertEqual(self.fault(rows=ROWS[:5] + [("dies", "c")]), "bearer")
        self.assertEqual(self.fault(bearer="e", kind="s"), "bearer")
        self.assertEqual(self.fault(bearer="c", kind="d"), "bearer")

    def test_deeds(self):
        for deed in ((), ("born",), ("odd",), ("born", "s", 0), ("born", "s", 1, "bearer"), ("born", "d", 1, None), ("born", "s", 0, 0), ("born", "s", True, "bearer"), ("mate", "f"),
                     ("mate", "m"), ("elder", "f"), ("bearers", 0), ("weds", (None,)), ("comes", "s"), ("born", "x", 0, "bearer"), ("born", "s", None, "bearer"), ("born", "s", 0, "Bearer"),
                     ("born", "s", 0, "bearer", 1), (None, "s", 0, "bearer"), (["born"], "s", 0, "bearer"), ("born", ["s"], 0, "bearer"), ("born", "s", [0], "bearer"), (1, 2, 3, 4)):
            self.assertEqual(self.fault(ring=(deed,)), "deed", deed)
            self.assertEqual(self.fault(ring=self.RING + (deed,)), "deed", deed)

    def test_counted_and_ring(self):
        self.assertEqual(self.fault(ring=()), "counted")
        self.assertEqual(self.fault(ring=(("born", "s", 0, None),)), "counted")
        self.assertEqual(self.fault(kind="s", ring=(("born", "d", 0, "bearer"),)), "counted")
        custom = Custom([Take("f", Number(3)), Free()], FREE)
        # The number goes up to three: the third son has the father's name, the state is another one then.
        self.assertEqual(self.fault(custom, ring=(("born", "s", 1, "bearer"),)), "ring")
        rows = ROWS + [("born", "a", "b", "s", "k", 7)]
        self.assertIsNone(self.fault(custom, rows=rows, ring=(("born", "s", 1, "bearer"),)))
        self.assertEqual(self.fault(custom, rows=rows, ring=(("born", "s", 1, None),)), "counted")

    def test_deeds_that_end_the_bearers_life(self):
        custom = Custom([Take("f", Unborne()), Free()], FREE)
        # c has the father's name, a tracked class.
        ring = (("born", "s", 1, "bearer"),)
        self.assertIsNone(self.fault(custom, ring=ring))
        self.assertEqual(self.fault(custom, ring=ring + (("bearers", 0), ("born", "s", 0, 0))), "deed")
        # The daughter's name is no class.
        self.assertIsNone(self.fault(custom, bearer="e", ring=(("born", "d", 0, "bearer"), ("bearers", 0), ("born", "s", 0, 0))))

    def test_names_not_given_again(self):
        # A Free that bars gives only new names for None.
        self.assertEqual(self.fault(BARRED, rows=ROWS[:5], ring=(("born", "s", 0, "bearer"),)), "deed")
        self.assertEqual(self.fault(BARRED, rows=ROWS[:5], ring=(("born", "s", 0, None),)), "counted")
        custom = Custom([Free("ever")], FREE)
        self.assertEqual(self.fault(custom, rows=ROWS[:5], ring=(("born", "s", 0, "bearer"),)), "deed")
        self.assertIsNone(self.fault(custom, rows=ROWS[:5], ring=(("born", "d", 0, "bearer"),)))
        self.assertIsNone(self.fault(custom, rows=ROWS[:5], ring=(("born", "d", 0, "bearer"), ("born", "s", 0, None))))

    def test_classes_that_are_not_tracked(self):
        # The father's name is read as a bar alone; the sons' Free bars what a child bears.
        custom = Custom([Free("living")], [Free("f")])
        rows = ROWS[:3] + [("born", "a", "b", "d", "c", 5)]
        self.assertEqual(Scope(custom).reads.tracked, ())
        self.assertIsNone(self.fault(custom, rows=rows, ring=(("born", "d", 0, "bearer"),)))
        self.assertEqual(self.fault(custom, rows=rows, ring=(("born", "d", 0, "bearer"), ("born", "s", 0, 0))), "deed")
        loose = Custom([Free("m")], [Free("f")])
        self.assertIsNone(self.fault(loose, rows=rows, ring=(("born", "d", 0, "bearer"), ("born", "s", 0, 0))))

    def test_the_bearers_name_is_a_class_if_a_place_has_it(self):
        # c has the father's name, which a place of the state has: so "bearer" is that class.
        custom = Custom([Take("f", Dead("ff")), Free("m")], [Free("f")])
        self.assertIsNone(self.fault(custom, rows=ROWS[:4], ring=(("born", "s", 1, "bearer"), ("born", "s", 1, 0))))
        # The daughters' Free bars it.
        self.assertEqual(self.fault(custom, rows=ROWS[:4], ring=(("born", "s", 1, "bearer"), ("born", "d", 0, "bearer"))), "deed")
        rows = ROWS[:3] + [("born", "a", "b", "s", "c", 9)]
        self.assertIsNone(self.fault(custom, rows=rows, ring=(("born", "s", 1, "bearer"), ("born", "d", 0, "bearer"))))
