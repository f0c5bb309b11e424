"""Customs within customs, and alike ones [9.3], [9.6], [9.7], [9.12]."""

import random

from namesakes.clauses import Dead, Free, Never, Number, Take, Unborne, Unlike
from namesakes.customs import Custom
from namesakes.errors import BadPair, TooWide
from namesakes.records import Record
from namesakes.scopes import Scope
from namesakes.states import PersonState
from namesakes.tables import Table, table_of
from namesakes.twocustoms import first_unkept, keeps_custom, pair_scope
from namesakes.within import Alike, Parted, Within, alike_customs, alike_fault, are_alike, is_custom_within, within_custom, within_fault
from tests.checks import Checks
from tests.families import ODD_THINGS, AlwaysEqual
from tests.twos import chance_other, chance_pair, first_wrong, kept_record, with_clauses

FREE = [Free()]
PLAIN = Custom(FREE, FREE)
STRICT = Custom([Take("ff", Number(1)), Free("ff", "ever")], [Free("ff", "ever")])
NEVER = Custom([Take("ff", Never(), Number(1)), Free("ever", "ff")], [Free("ever", "ff")])
LOOSE = Custom([Take("ff", Number(1)), Free("ff")], [Free("ff", "ever")])
ROWS = [("comes", "a", "s", 1, ()), ("comes", "b", "d", 2, ()), ("weds", "a", "b"), ("born", "a", "b", "s", "c", 3), ("born", "a", "b", "s", "e", 3)]


class ResultsTest(Checks):
    def test_results(self):
        for result in (Within, Alike):
            self.assertEqual((result(5).table, result(table=5)), (5, result(5)))
            self.unlike_all(result(5), result(6), 5, None)
        self.unlike_all(Within(5), Alike(5), Parted(5, 0))
        for parted in (Parted(1, 2), Parted(keeper=2, record=1)):
            self.assertEqual((parted.record, parted.keeper, parted), (1, 2, Parted(1, 2)))
        self.unlike_all(Parted(1, 2), Parted(1, 1), Parted(2, 2), (1, 2))


class AskCase(Checks):
    def within(self, one, other):
        """Ask, hold the answer against the judge and against the rows, and return whether it is within."""
        result = within_custom(one, other)
        self.assertIsNone(within_fault(one, other, result))
        self.assertIs(is_custom_within(one, other), isinstance(result, Within))
        if isinstance(result, Within):
            self.assertEqual(result, Within(table_of(pair_scope(one, other))))
        else:
            self.hold_parted(one, other, result)
            self.assertEqual(result.keeper, 0)
        return isinstance(result, Within)

    def alike(self, one, other):
        result = alike_customs(one, other)
        self.assertIsNone(alike_fault(one, other, result))
        self.assertIs(are_alike(one, other), isinstance(result, Alike))
        if isinstance(result, Alike):
            self.assertEqual(result, Alike(table_of(pair_scope(one, other))))
            return None
        self.hold_parted(one, other, result)
        return result.keeper

    def hold_parted(self, one, other, parted):
        keeper, breaker = (one, other) if parted.keeper == 0 else (other, one)
        self.assertIs(type(parted.keeper), int)
        self.assertEqual(parted.record.rows[-1][0], "born")
        self.assertIsNone(first_wrong(keeper, parted.record))
        self.assertEqual(first_wrong(breaker, parted.record), parted.record.rows[-1][4])


class AskTest(AskCase):
    def test_the_document(self):
        self.assertEqual((are_alike(STRICT, NEVER), is_custom_within(STRICT, LOOSE), is_custom_within(LOOSE, STRICT)), (True, True, False))
        self.assertIsNone(within_fault(LOOSE, STRICT, Parted(Record(0, ROWS), 0)))
        self.assertTrue(self.within(STRICT, NEVER) and self.within(NEVER, STRICT))
        self.assertEqual((self.alike(STRICT, NEVER), self.alike(STRICT, LOOSE), self.alike(LOOSE, STRICT)), (None, 1, 0))

    def test_within_one_way_and_not_the_other(self):
        for less, more in (([Free("f")], FREE), ([Free("living")], FREE), ([Free("ever")], [Free("living")]), ([Free("f", "ever")], [Free("ever")]),
                           ([Take("f"), Free()], FREE), ([Take("f", Number(1)), Free("living")], [Free("ever")][:0] + [Free()]),
                           ([Take("f", Dead("ff")), Free()], FREE), ([Take("f", Unborne()), Free("f")], FREE)):
            one, other = Custom(less, FREE), Custom(more, FREE)
            for first, second in ((one, other), (one.mirrored(), other.mirrored())):
                self.assertTrue(self.within(first, second), str(first))
                self.assertFalse(self.within(second, first))
                self.assertEqual((self.alike(first, second), self.alike(second, first)), (1, 0))

    def test_neither_within_the_other(self):
        for one, other in (([Take("f"), Free()], [Take("m"), Free()]), ([Free("f")], [Free("m")]), ([Take("f", Number(2)), Free()], [Take("f", Number(1)), Free()]),
                           ([Take("f", Unborne()), Free()], [Take("f", Never()), Free("f")]), ([Free("living", "f")], [Free("ever")])):
            one, other = Custom(one, FREE), Custom(other, FREE)
            self.assertFalse(self.within(one, other))
            self.assertFalse(self.within(other, one))
            self.assertEqual((self.alike(one, other), self.alike(other, one)), (0, 0))

    def test_alike_customs_written_in_unlike_ways(self):
        for one, other in (
            ([Take("f"), Free("f")], [Take("f"), Take("m"), Free()]), ([Free("living", "ever")], [Free("ever")]),
            ([Take("f", Number(1)), Take("f"), Free()], [Take("f"), Free()]), ([Take("f", Unlike("m", "m")), Free()], FREE),
            ([Take("f", Number(2), Number(3)), Free("ff")], [Free("ff")]), ([Take("ff", Unborne()), Free("ff", "living")], [Take("ff", Unborne()), Free("living", "ff")]),
            ([Take("f", Never()), Free("ever")], [Take("f", Never(), Number(1)), Take("f", Never()), Free("ever")]),
            ([Take("f", Dead("f")), Free("m")], [Free("m", "m")]),
        ):
            for first, second in ((one, other), (other, one)):
                self.assertIsNone(self.alike(Custom(first, FREE), Custom(second, FREE)), str(Custom(first, FREE)))
                self.assertTrue(self.within(Custom(first, FREE), Custom(second, FREE)))

    def test_house_names(self):
        # A father's house name is his father's given name, if he has one; a founder's is no elder's.
        house = [("given", "f")]
        one = Custom([Take("f.0", Unlike("ff", "m")), Free()], FREE, house=house)
        other = Custom([Take("ff", Unlike("ff", "m")), Free()], FREE, house=house)
        self.assertIsNone(self.alike(one, other))
        loose = Custom([Take("f.0"), Free()], FREE, house=house)
        self.assertEqual((self.alike(loose, Custom([Take("ff"), Free()], FREE, house=house)), self.within(loose, other)), (1, True))

    def test_names_that_are_no_class_of_the_couple(self):
        # Only an earlier child has borne the name; the followed name stands for it.
        one, other = Custom([Free("living")], FREE), Custom([Free("ever")], FREE)
        parted = within_custom(one, other)
        births = [row for row in parted.record if row[0] == "born"]
        self.assertEqual((len(births), births[0][5]), (2, births[1][5]))
        self.assertIn(("dies", births[0][4]), parted.record.rows)
        self.assertTrue(self.within(other, one))
        # Where both bar it, nothing is followed.
        self.assertIsNone(self.alike(Custom([Free("ever", "f")], FREE), Custom([Free("f", "ever")], FREE)))

    def test_too_wide_though_they_part_early(self):
        wide = Custom([Take("fff", Dead("fm")), Take("mm"), Free()], [Take("mmm", Never()), Free()])
        for one, other in ((wide, Custom([Free("f")], FREE)), (Custom([Free("f")], FREE), wide)):
            for ask in (within_custom, alike_customs, is_custom_within, are_alike):
                self.refused(TooWide, ("states",) if one is wide else ("names",) if self.is_names(one, other) else ("states",), ask, one, other)
        names = Custom([Take("fff"), Take("ffm"), Take("fmf"), Free()], FREE)
        for ask in (within_custom, alike_customs, is_custom_within, are_alike):
            self.refused(TooWide, ("names",), ask, names, PLAIN)
        for judge in (within_fault, alike_fault):
            self.refused(TooWide, ("names",), judge, names, PLAIN, None)

    def is_names(self, one, other):
        try:
            pair_scope(one, other)
        except TooWide:
            return True
        return False

    def test_wrong_pairs(self):
        housed = Custom(FREE, FREE, house=[("f", 0)])
        for ask in (within_custom, alike_customs, is_custom_within, are_alike):
            for thing in ODD_THINGS + (AlwaysEqual(),):
                self.refused(BadPair, (0, "custom"), ask, thing, None)
                self.refused(BadPair, (1, "custom"), ask, PLAIN, thing)
            self.refused(BadPair, (1, "house"), ask, PLAIN, housed)
        for judge in (within_fault, alike_fault):
            self.refused(BadPair, (0, "custom"), judge, None, PLAIN, None)
            self.refused(BadPair, (1, "custom"), judge, PLAIN, None, None)
            self.refused(BadPair, (1, "house"), judge, housed, PLAIN, None)


class JudgeTest(Checks):
    def test_sort(self):
        table = table_of(pair_scope(PLAIN, PLAIN))
        for thing in ODD_THINGS + (AlwaysEqual(), table):
            self.assertEqual(within_fault(PLAIN, PLAIN, thing), "sort")
            self.assertEqual(alike_fault(PLAIN, PLAIN, thing), "sort")
        self.assertEqual(within_fault(PLAIN, PLAIN, Alike(table)), "sort")
        self.assertEqual(alike_fault(PLAIN, PLAIN, Within(table)), "sort")
        self.assertIsNone(within_fault(PLAIN, PLAIN, Within(table)))
        self.assertIsNone(alike_fault(PLAIN, PLAIN, Alike(table)))

    def test_papers(self):
        table = table_of(pair_scope(STRICT, LOOSE))
        self.assertIsNone(within_fault(STRICT, LOOSE, Within(table)))
        self.assertEqual(alike_fault(STRICT, LOOSE, Alike(table)), "lets")
        for scope in (Scope(STRICT), Scope(STRICT, LOOSE), Scope(LOOSE, STRICT, tracked=("ff",), followed=True), Scope(STRICT, LOOSE, tracked=("ff",)),
                      Scope(STRICT, LOOSE, tracked=("ff",), followed=True, houses=True), Scope(STRICT, LOOSE, tracked=("ff", "ff"), followed=True)):
            self.assertEqual(within_fault(STRICT, LOOSE, Within(Table(scope, []))), "scope")
            self.assertEqual(alike_fault(STRICT, LOOSE, Alike(Table(scope, []))), "scope")
        for state in table.states[::7] + table.couples[-3:]:
            self.assertEqual(within_fault(STRICT, LOOSE, Within(table.without(state))), "step")
            self.assertEqual(alike_fault(STRICT, LOOSE, Alike(table.without(state))), "step")
        back = table_of(pair_scope(LOOSE, STRICT))
        self.assertEqual(within_fault(LOOSE, STRICT, Within(back)), "lets")
        self.assertEqual(alike_fault(LOOSE, STRICT, Alike(back)), "lets")

    def test_right_papers_that_are_not_returned(self):
        scope = pair_scope(STRICT, NEVER)
        table = table_of(scope)
        backwards = Table(scope, tuple(reversed(table.states)))
        self.assertIsNone(within_fault(STRICT, NEVER, Within(backwards)))
        self.assertIsNone(alike_fault(STRICT, NEVER, Alike(backwards)))
        # More states than those that can come, if no step leaves them.
        small = pair_scope(PLAIN, PLAIN)
        more = Table(small, table_of(small).states + (PersonState("d", (), (), 7),))
        self.assertEqual(within_fault(PLAIN, PLAIN, Within(more)), "step")
        couples = [type(couple)(couple.names, couple.lives, 0, 0, couple.borne, (0, 7)) for couple in more.couples]
        more = Table(small, more.states + tuple(couples))
        self.assertIsNone(within_fault(PLAIN, PLAIN, Within(more)))
        self.assertIsNone(alike_fault(PLAIN, PLAIN, Alike(more)))

    def test_parted_words(self):
        record = Record(0, ROWS)
        self.assertIsNone(within_fault(LOOSE, STRICT, Parted(record, 0)))
        self.assertIsNone(alike_fault(LOOSE, STRICT, Parted(record, 0)))
        self.assertIsNone(alike_fault(STRICT, LOOSE, Parted(record, 1)))
        for keeper in ODD_THINGS + (2, -1, AlwaysEqual()):
            self.assertEqual(within_fault(LOOSE, STRICT, Parted(Record(1), keeper)), "keeper")
            self.assertEqual(alike_fault(LOOSE, STRICT, Parted(Record(1), keeper)), "keeper")
        self.assertEqual(within_fault(LOOSE, STRICT, Parted(record, 1)), "keeper")
        self.assertEqual(alike_fault(LOOSE, STRICT, Parted(record, 1)), "kept")
        self.assertEqual(alike_fault(STRICT, LOOSE, Parted(record, 0)), "kept")
        self.assertEqual(within_fault(STRICT, LOOSE, Parted(record, 0)), "kept")
        self.assertEqual(within_fault(LOOSE, STRICT, Parted(Record(1), 0)), "width")
        self.assertEqual(within_fault(LOOSE, STRICT, Parted(Record(2, [("comes", "a", "s", 1, (1, 2))]), 0)), "width")
        for rows in ([], ROWS[:3], ROWS + [("dies", "a")]):
            self.assertEqual(within_fault(LOOSE, STRICT, Parted(Record(0, rows), 0)), "last")
            self.assertEqual(alike_fault(LOOSE, STRICT, Parted(Record(0, rows), 1)), "last")
        longer = ROWS + [("born", "a", "b", "s", "g", 3)]
        self.assertEqual(within_fault(LOOSE, STRICT, Parted(Record(0, longer), 0)), "ahead")
        self.assertEqual(alike_fault(STRICT, LOOSE, Parted(Record(0, longer), 1)), "ahead")
        # Both keep it, or none does.
        for choice in (4, 5):
            both = Record(0, ROWS[:4] + [("born", "a", "b", "s", "e", choice)])
            self.assertEqual(within_fault(LOOSE, STRICT, Parted(both, 0)), "kept")
            self.assertEqual(alike_fault(LOOSE, STRICT, Parted(both, 1)), "kept")
        grand = ROWS[:4] + [("comes", "k", "d", 9, ()), ("weds", "c", "k"), ("born", "c", "k", "s", "l", 8)]
        self.assertEqual(within_fault(LOOSE, STRICT, Parted(Record(0, grand), 0)), "kept")


class ChanceTest(AskCase):
    def test_pairs(self):
        rng = random.Random(903)
        found = {True: 0, False: 0}
        for _ in range(80):
            one, other = chance_pair(rng, rng.choice([1, 1, 2]))
            try:
                told, keeper = self.within(one, other), self.alike(one, other)
                back = self.within(other, one)
            except TooWide:
                continue
            found[told] += 1
            self.assertEqual(keeper, 0 if not told else None if back else 1)
            for customs, within in (((one, other), told), ((other, one), back)):
                for _ in range(8):
                    record, _ = kept_record(rng, (customs[0],) * 2, "father", rng.randint(4, 18), rng.choice([2, 4, 30]))
                    self.assertTrue(keeps_custom(customs[0], record))
                    if within:
                        self.assertIsNone(first_unkept(customs[1], record))
        self.assertGreater(min(found.values()), 12)

    def test_what_follows(self):
        rng = random.Random(904)
        chains = 0
        for _ in range(40):
            one, other = chance_pair(rng, 1)
            strict = with_clauses(one, [*one.sons[:-1], Free(*(one.sons[-1].bars + (rng.choice(["f", "m", "living", "ever"]),)))], one.daughters)
            loose = with_clauses(one, one.sons, [*one.daughters[:-1], Free(*one.daughters[-1].bars[1:])])
            more = with_clauses(one, [Take("f", Unlike("m", "m")), *one.sons], one.daughters)
            try:
                # Each is within itself, a bar more is within, a Take by which nobody is named changes nothing.
                self.assertTrue(self.within(one, one))
                self.assertIsNone(self.alike(one, one))
                self.assertEqual(self.within(one, other), self.within(one.mirrored(), other.mirrored()))
                self.assertIsNone(self.alike(more, one))
                self.assertIsNone(self.alike(one, more))
                self.assertTrue(self.within(strict, one))
                self.assertTrue(self.within(one, loose))
                self.assertTrue(self.within(strict, loose))
            except TooWide:
                continue
            chains += 1
        self.assertGreater(chains, 10)
