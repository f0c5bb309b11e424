"""Mends of customs [10.12] to [10.16]."""

import inspect
import itertools
import random

from namesakes.changes import changed_custom
from namesakes.clauses import Dead, Free, Never, Number, Take, Unborne
from namesakes.customs import Custom
from namesakes.errors import BadAsked, BadChange, BadPrices, TooWide
from namesakes.families import Family, NeverAlike
from namesakes.mends import Mends, all_lots, cheapest_mend, good_lots, least_mends, mends_fault, spoilers
from namesakes.records import Record
from namesakes.siblings import sibling_namesakes, siblings_fault
from tests.checks import Checks
from tests.families import ODD_THINGS, AlwaysEqual, chance_custom, sources

FREE = [Free()]
PLAIN = Custom(FREE, FREE)
CUSTOM = Custom([Take("ff", Number(3)), Free("living")], [Free()])
POOL = [("bar", "s", "ff"), ("number", "s", 0, None), ("unborne", "s", 0)]
# Four conditions, so that one more cannot be made.
FULL = Custom([Take("f", Number(2), Never(), Never(), Never()), Free("living")], [Free("living", "f")])
BARS = [("bar", "s", "living"), ("bar", "d", "living"), ("bar", "s", "ever"), ("bar", "d", "ever"), ("bar", "d", "f")]
WIDE = Custom([Take("fff"), Take("ffm"), Take("fmf"), Free()], FREE)
KINDS = ("ss", "dd", "sd", "any")


def plain_lots(many):
    return [lot for size in range(many + 1) for lot in itertools.combinations(range(many), size)]


def plain_good(custom, pool, kinds):
    """(good, unmade) lots, each asked anew."""
    good, unmade = [], []
    for lot in plain_lots(len(pool)):
        try:
            changed = changed_custom(custom, [pool[index] for index in lot])
        except BadChange:
            unmade.append(lot)
            continue
        if isinstance(sibling_namesakes(changed, kinds), NeverAlike):
            good.append(lot)
    return good, unmade


def chance_change(rng, custom):
    kind = rng.choice("sd")
    takes = len(custom.clauses(kind)) - 1
    words = ["bar", "bar"] + ["unborne", "number", "drop", "swap"] * (takes > 0)
    word = rng.choice(words)
    if word == "swap" and takes < 2:
        word = "drop"
    if word == "bar":
        return ("bar", kind, rng.choice(["living", "ever", "living", *sources(custom.width, 2)]))
    clause = rng.randrange(takes - 1 if word == "swap" else takes)
    return (word, kind, clause) + ((rng.choice([None, 1, 2, 3, 4]),) if word == "number" else ())


class LotsTest(Checks):
    def test_all_lots(self):
        self.assertTrue(inspect.isgeneratorfunction(all_lots))
        for many in range(6):
            self.assertEqual(list(all_lots(many)), plain_lots(many))
        self.assertEqual(list(all_lots(2)), [(), (0,), (1,), (0, 1)])


class AskTest(Checks):
    def test_the_document(self):
        self.assertEqual(good_lots(CUSTOM, POOL, "ss"), ((0,), (2,), (0, 2), (1, 2), (0, 1, 2)))
        self.assertEqual([row[:2] for row in spoilers(CUSTOM, POOL, "ss")], [((0,), 1)])
        self.assertEqual(cheapest_mend(CUSTOM, POOL, (7, 1, 4), "ss"), (4, (2,)))

    def test_pools_of_one_and_of_five(self):
        self.assertEqual(good_lots(PLAIN, [("bar", "s", "living")], "ss"), ((0,),))
        self.assertEqual(good_lots(PLAIN, [("bar", "s", "f")]), ())
        self.assertEqual(least_mends(PLAIN, [("bar", "s", "f")]).good, ())
        mends = least_mends(PLAIN, BARS)
        self.assertEqual([lot for lot, _ in mends.good], [(0, 1), (0, 3), (1, 2), (2, 3)])
        self.assertEqual([lot for lot, _ in mends.bad], [(), (0,), (1,), (2,), (3,), (4,), (0, 2), (0, 4), (1, 3), (1, 4), (2, 4), (3, 4), (0, 2, 4), (1, 3, 4)])
        self.assertEqual(mends.unmade, ())
        self.assertEqual(len(good_lots(PLAIN, tuple(BARS))), 18)

    def test_a_custom_that_is_good_already(self):
        barred = Custom([Free("living")], [Free("living")])
        mends = least_mends(barred, [("bar", "s", "f")])
        self.assertEqual(([lot for lot, _ in mends.good], mends.bad, mends.unmade), ([()], (), ()))
        self.assertEqual(good_lots(barred, [("bar", "s", "f")]), ((), (0,)))
        self.assertEqual(cheapest_mend(barred, [("bar", "s", "f")], [5]), (0, ()))
        self.assertEqual(spoilers(barred, [("bar", "s", "f")]), ())

    def test_lots_that_cannot_be_made(self):
        pool = [("unborne", "s", 0), ("number", "s", 0, None), ("drop", "s", 0)]
        mends = least_mends(FULL, pool, "ss")
        good, unmade = plain_good(FULL, pool, "ss")
        self.assertIn((0,), unmade)
        self.assertNotIn((1, 0), unmade)
        self.assertEqual(good_lots(FULL, pool, "ss"), tuple(good))
        self.assertEqual(mends.unmade, tuple(lot for lot in unmade if not any(set(least) < set(lot) for least in good)))
        # Changes are made in the order of the pool: the number must go first.
        pool = [("number", "s", 0, None), ("unborne", "s", 0)]
        self.assertEqual(plain_good(FULL, pool, "any")[1], [(1,)])
        self.assertEqual(plain_good(FULL, pool[::-1], "any")[1], [(0,), (0, 1)])
        for told in (pool, pool[::-1]):
            self.hold(FULL, told, "any")

    def hold(self, custom, pool, kinds):
        """All answers for a pool, held against lots asked one by one."""
        good, unmade = plain_good(custom, pool, kinds)
        self.assertEqual(good_lots(custom, pool, kinds), tuple(good))
        mends = least_mends(custom, pool, kinds)
        self.assertIsNone(mends_fault(custom, pool, kinds, mends))
        asked = [lot for lot in plain_lots(len(pool)) if not any(set(other) < set(lot) for other in good)]
        self.assertEqual([lot for lot, _ in mends.good], [lot for lot in asked if lot in good])
        self.assertEqual([lot for lot, _ in mends.bad], [lot for lot in asked if lot not in good + unmade])
        self.assertEqual(list(mends.unmade), [lot for lot in asked if lot in unmade])
        for entries, told in ((mends.good, NeverAlike), (mends.bad, Family)):
            for lot, result in entries:
                self.assertIs(type(result), told)
                self.assertIsNone(siblings_fault(changed_custom(custom, [pool[index] for index in lot]), kinds, result))
        spoiled = []
        for lot, _ in mends.good:
            for index in range(len(pool)):
                more = tuple(sorted({*lot, index}))
                if index not in lot and more not in good + unmade:
                    spoiled.append((lot, index))
        found = spoilers(custom, pool, kinds)
        self.assertEqual([row[:2] for row in found], spoiled)
        for lot, index, family in found:
            changed = changed_custom(custom, [pool[at] for at in sorted({*lot, index})])
            self.assertIsNone(siblings_fault(changed, kinds, family))
        self.assertEqual({type(found), type(mends.good), type(mends.bad), type(mends.unmade)}, {tuple})
        self.hold_prices(custom, pool, kinds, good)
        return good

    def hold_prices(self, custom, pool, kinds, good):
        prices = [3, 1, 10 ** 30, 0, 3][:len(pool)]
        told = [(sum(prices[index] for index in lot), at, lot) for at, lot in enumerate(good)]
        best = min(told, default=None)
        self.assertEqual(cheapest_mend(custom, pool, prices, kinds), None if best is None else (best[0], best[2]))

    def test_by_chance(self):
        rng = random.Random(1012)
        found = spoiled = 0
        for _ in range(25):
            custom = chance_custom(rng, rng.choice([0, 0, 1]), most=1)
            pool = [chance_change(rng, custom) for _ in range(rng.choice([1, 2, 3, 3]))]
            kinds = rng.choice(KINDS)
            try:
                found += len(self.hold(custom, pool, kinds))
                spoiled += len(spoilers(custom, pool, kinds))
            except TooWide:
                continue
        self.assertGreater(found, 5)

    def test_goodness_is_not_monotone(self):
        # One change more spoils a good lot, and a further one mends it.
        good = self.hold(CUSTOM, POOL, "ss")
        self.assertTrue((0,) in good and (0, 1) not in good and (0, 1, 2) in good)

    def test_good_lots_within_which_none_is_good(self):
        pool = [("bar", "s", "living"), ("bar", "d", "living")]
        self.assertEqual(self.hold(PLAIN, pool, "any"), [(0, 1)])

    def test_prices_alike_and_great(self):
        pool = [("bar", "s", "living"), ("bar", "s", "ever")]
        for prices, told in (((0, 0), (0, (0,))), ((10 ** 30, 10 ** 30), (10 ** 30, (0,))), ((5, 4), (4, (1,))), ((0, 1), (0, (0,))), ((1, 0), (0, (1,)))):
            self.assertEqual(cheapest_mend(PLAIN, pool, prices, "ss"), told)
            self.assertEqual(cheapest_mend(PLAIN, pool, list(prices), "ss"), told)
        self.assertIsNone(cheapest_mend(PLAIN, [("bar", "s", "f")], [1]))


class ErrorTest(Checks):
    def calls(self, custom, pool, kinds):
        mends = Mends((), (), ())
        return ((good_lots, custom, pool, kinds), (least_mends, custom, pool, kinds), (spoilers, custom, pool, kinds), (mends_fault, custom, pool, kinds, mends),
                (cheapest_mend, custom, pool, None, kinds))

    def test_pools(self):
        change = ("bar", "s", "f")
        for pool in ODD_THINGS + ([], (), [change] * 6, {0: change}, iter([change]), AlwaysEqual()):
            if isinstance(pool, (list, tuple)) and 1 <= len(pool) <= 5:
                continue
            for call in self.calls(WIDE, pool, None):
                self.refused(BadChange, (0, "pool"), *call)
        for thing, word in ((None, "change"), (("bar", "x", "f"), "change"), (("drop", "s", 3), "clause"), (("swap", "s", 2), "next"), (("number", "s", 0, 5), "number"), (("bar", "s", "f.0"), "bar")):
            for call in self.calls(WIDE, [change, thing, None], None):
                self.refused(BadChange, (1, word), *call)
        for thing in ODD_THINGS:
            for call in self.calls(WIDE, (thing,), None):
                self.refused(BadChange, (0, "change"), *call)

    def test_kinds(self):
        for thing in ODD_THINGS + ("ds", "s", AlwaysEqual()):
            for call in self.calls(WIDE, POOL[:1], thing):
                self.refused(BadAsked, ("kinds",), *call)

    def test_prices(self):
        pool = [("bar", "s", "f"), ("bar", "d", "f")]
        self.refused(BadAsked, ("kinds",), cheapest_mend, WIDE, pool, None, "x")
        for prices in [thing for thing in ODD_THINGS] + [(1,), (1, 2, 3), "12", {0: 1, 1: 2}, AlwaysEqual()]:
            self.refused(BadPrices, (-1,), cheapest_mend, WIDE, pool, prices)
        for thing in ODD_THINGS + (-1, 10 ** 30 + 1, AlwaysEqual()):
            self.refused(BadPrices, (0,), cheapest_mend, WIDE, pool, [thing, thing])
            self.refused(BadPrices, (1,), cheapest_mend, WIDE, pool, (10 ** 30, thing), "ss")

    def test_too_wide(self):
        for call in self.calls(WIDE, POOL[:1], "ss"):
            if call[0] is not mends_fault and call[0] is not cheapest_mend:
                self.refused(TooWide, ("names",), *call)
        self.refused(TooWide, ("names",), cheapest_mend, WIDE, POOL[:1], [1])
        # Only the lots that are asked can be too wide.
        custom = Custom([Take("fff"), Take("ffm"), Free("living")], [Free("living")])
        pool = [("drop", "s", 0), ("drop", "s", 1), ("bar", "s", "fmf")]
        self.assertEqual(len(least_mends(Custom([Free("living")], [Free("living")]), [("bar", "s", "fff"), ("bar", "s", "ffm"), ("bar", "s", "fmf")]).good), 1)
        self.refused(TooWide, ("names",), good_lots, Custom([Free("living")], [Free("living")]), [("bar", "s", "fff"), ("bar", "s", "ffm"), ("bar", "s", "fmf")])
        for ask in (good_lots, least_mends, spoilers):
            with self.assertRaises(TooWide):
                ask(custom, pool)


class JudgeTest(Checks):
    def setUp(self):
        self.mends = least_mends(CUSTOM, POOL, "ss")

    def fault(self, custom=CUSTOM, pool=POOL, kinds="ss", **changes):
        return mends_fault(custom, pool, kinds, Mends(**{"good": self.mends.good, "bad": self.mends.bad, "unmade": self.mends.unmade, **changes}))

    def test_the_result(self):
        self.assertIsNone(self.fault())
        self.assertEqual(([lot for lot, _ in self.mends.good], [lot for lot, _ in self.mends.bad]), ([(0,), (2,)], [(), (1,)]))
        self.assertEqual((Mends(1, 2, unmade=3).good, Mends(1, 2, 3).bad, Mends(1, 2, 3).unmade), (1, 2, 3))

    def test_lots(self):
        good, bad = self.mends.good, self.mends.bad
        paper, family = good[0][1], bad[0][1]
        for changes in ({"good": good[::-1]}, {"bad": bad[::-1]}, {"good": good[:1]}, {"bad": bad[1:]}, {"good": good + good[1:]}, {"bad": bad + bad[1:]}, {"bad": (bad[0],) + bad},
                        {"unmade": ((),)}, {"unmade": ((0, 1),)}, {"good": good + (((0, 2), paper),)}, {"bad": bad + (((0, 1), family),)}, {"good": good + (((7,), paper),)},
                        {"good": good + (((2, 0), paper),)}, {"good": (((0,), paper),), "bad": bad + (((2,), family),)}, {"good": ()}, {"good": (((), paper),)}, {"bad": bad + (((0,), family),)}):
            self.assertEqual(self.fault(**changes), "lots", changes)
        # Lots in the wrong one of the three, but each once and in order.
        self.assertEqual(self.fault(bad=bad[:1], unmade=((1,),)), "unmade")
        self.assertEqual(self.fault(good=good + (((1,), paper),), bad=bad[:1]), "lots")
        self.assertEqual(self.fault(good=(good[0], ((1,), paper), good[1]), bad=bad[:1]), "paper")

    def test_unmade(self):
        pool = [("number", "s", 0, None), ("unborne", "s", 0)]
        mends = least_mends(FULL, pool, "ss")
        self.assertEqual(mends_fault(FULL, pool, "ss", mends), None)
        good, _ = plain_good(FULL, pool, "ss")
        self.assertEqual([lot for lot, _ in mends.good], [()])
        takes = Custom([Take("f", Number(1), Number(1), Number(1), Number(1)), Take("f", Number(2)), Free("living")], [Free("living", "f")])
        mends = least_mends(takes, [("unborne", "s", 0), ("unborne", "s", 1)], "ss")
        self.assertEqual((mends.unmade, [lot for lot, _ in mends.good]), (((0,),), [(1,)]))
        family, paper = mends.bad[0][1], mends.good[0][1]
        pool = [("unborne", "s", 0), ("unborne", "s", 1)]
        self.assertIsNone(mends_fault(takes, pool, "ss", mends))
        self.assertEqual(mends_fault(takes, pool, "ss", Mends(mends.good, mends.bad + (((0,), family),), ())), "unmade")
        self.assertEqual(mends_fault(takes, pool, "ss", Mends((((0,), paper),) + mends.good, mends.bad, ())), "unmade")
        self.assertEqual(mends_fault(takes, pool, "ss", Mends(mends.good, (), ((), (0,)))), "unmade")

    def test_papers_and_families(self):
        good, bad = self.mends.good, self.mends.bad
        for thing in ODD_THINGS + (bad[0][1], Family(Record(0), "a", "b"), AlwaysEqual()):
            self.assertEqual(self.fault(good=((good[0][0], thing), good[1])), "paper")
            self.assertEqual(self.fault(good=(good[0], (good[1][0], thing))), "paper")
        for thing in ODD_THINGS + (good[0][1], Family(Record(0), "a", "b"), AlwaysEqual()):
            self.assertEqual(self.fault(bad=((bad[0][0], thing), bad[1])), "family")
        # Those of another lot.
        self.assertEqual(self.fault(good=((good[0][0], good[1][1]), good[1])), "paper")
        self.assertEqual(self.fault(good=(good[0], (good[1][0], NeverAlike(good[1][1].table, ())))), "paper")
        self.assertEqual(self.fault(good=((good[0][0], None), good[1]), bad=((bad[0][0], None), bad[1])), "paper")
        record = Record(0, [("comes", "a", "s", 1, ()), ("comes", "b", "d", 2, ()), ("weds", "a", "b"), ("born", "a", "b", "s", "c", 3), ("born", "a", "b", "s", "e", 3)])
        self.assertEqual(self.fault(bad=((bad[0][0], Family(record, "c", "e")), bad[1])), "family")
        # A right family that is not returned.
        family = sibling_namesakes(CUSTOM, "ss")
        longer = Family(family.record.after(("comes", "zzz", "s", 99, ())), family.one, family.other)
        self.assertIsNone(self.fault(bad=((bad[0][0], longer), bad[1])))

    def test_too_wide_where_it_comes_to_a_lot(self):
        custom = Custom([Take("fff"), Take("ffm"), Take("fmf"), Free("living")], FREE)
        pool = [("bar", "s", "f")]
        family, paper = Family(Record(0), "a", "b"), NeverAlike(None, ())
        self.refused(TooWide, ("names",), mends_fault, custom, pool, "ss", Mends((((), paper),), (), ()))
        self.refused(TooWide, ("names",), mends_fault, custom, pool, "ss", Mends((), (((), family), ((0,), family)), ()))
        self.assertEqual(mends_fault(custom, pool, "ss", Mends((((), family),), (), ())), "paper")
        self.assertEqual(mends_fault(custom, pool, "ss", Mends((), (((), paper), ((0,), family)), ())), "family")
        self.assertEqual(mends_fault(custom, pool, "ss", Mends((), (((), family),), ())), "lots")
        # The first lot is too wide, and not reached.
        self.refused(TooWide, ("names",), mends_fault, custom, pool, "ss", Mends((), (((), family), ((0,), paper)), ()))

    def test_nothing_is_searched(self):
        # States are too many to be listed, but the judge needs no table.
        states = Custom([Take("fff", Dead("fm")), Take("mm"), Free()], [Take("mmm", Never()), Free()])
        record = Record(0, [("comes", "a", "s", 1, ()), ("comes", "b", "d", 2, ()), ("weds", "a", "b"), ("born", "a", "b", "s", "c", 3), ("born", "a", "b", "s", "e", 3)])
        family = Family(record, "c", "e")
        self.refused(TooWide, ("states",), least_mends, states, [("unborne", "s", 0)], "ss")
        self.assertIsNone(mends_fault(states, [("unborne", "d", 0)], "ss", Mends((), (((), family), ((0,), family)), ())))
