"""On which rows a row hangs, orders of rows, and persons named alone [3.10], [3.11], [3.13]."""

import itertools
import random

from namesakes.clauses import Alive, Dead, Free, Never, Number, Take, Unborne, Unlike
from namesakes.customs import Custom
from namesakes.errors import BadChoice, BadOrder, BadWidth, NoPerson, NoRow
from namesakes.hangs import Hanging, named_alone
from namesakes.naming import Naming, fits
from namesakes.records import Record
from tests.checks import Checks
from tests.families import ODD_THINGS, AlwaysEqual, chance_custom, chance_record, line_rows

PLAIN = Custom([Free()], [Free()])
# Two couples one behind the other with one father, and two children of the first.
ROWS = [
    ("comes", "a", "s", 1, ()), ("comes", "b", "d", 2, ()), ("weds", "a", "b"), ("born", "a", "b", "s", "c", 3),
    ("born", "a", "b", "d", "e", 4), ("dies", "b"), ("comes", "g", "d", 5, ()), ("weds", "a", "g"),
    ("born", "a", "g", "s", "h", 6), ("dies", "c"), ("dies", "a"),
]


def named(row):
    return {"comes": (), "weds": row[1:3], "born": row[1:3], "dies": row[1:2]}[row[0]]


def brings(row):
    return {"comes": row[1:2], "born": row[4:5]}.get(row[0], ())


def asked(custom, kind):
    """(kinds that count, ways of lives asked, whether deaths of siblings count), read off the texts."""
    texts = [str(clause) for clause in custom.clauses(kind)]
    conditions = [word for text in texts[:-1] for word in text.partition(" if ")[2].split(", ")]
    bars = texts[-1].partition(" not ")[2].split(", ")
    kinds = ""
    if any(word.startswith("number") for word in conditions):
        kinds = kind
    if {"unborne", "never"} & set(conditions) or {"living", "ever"} & set(bars):
        kinds = "sd"
    ways = [word.split(" ")[1] for word in conditions if word.startswith(("alive", "dead"))]
    return kinds, ways, "unborne" in conditions or "living" in bars


def hang_together(custom, record, one, other):
    """The five rules, read off plainly for two rows."""
    first, second = record.rows[one], record.rows[other]
    if set(brings(first)) & set(named(second)) or set(brings(second)) & set(named(first)):
        return True
    if set(named(first)) & set(named(second)) and {first[0], second[0]} & {"weds", "dies"}:
        return True
    for index, row, death in ((one, first, second), (other, second, first)):
        if row[0] == "weds" and death[0] == "dies":
            earlier = [told for told in record.rows[:index] if told[0] == "weds"]
            if any(set(told[1:]) == {death[1], who} for told in earlier for who in row[1:]):
                return True
        if row[0] == "born" and death[0] == "dies":
            _, ways, siblings = asked(custom, row[3])
            if any(record.elder_of(row[4], way) == death[1] for way in ways):
                return True
            if siblings and death[1] in record.siblings_of(row[4]):
                return True
    if first[0] == second[0] == "born" and first[1:3] == second[1:3]:
        return second[3] in asked(custom, first[3])[0] or first[3] in asked(custom, second[3])[0]
    return False


def hung_on(custom, record, index):
    return tuple(other for other in range(index) if hang_together(custom, record, index, other))


class OnTest(Checks):
    def on(self, custom, rows, index=-1):
        record = Record(custom.width, rows)
        index = range(len(rows))[index]
        found = Hanging(custom, record).on(index)
        self.assertEqual(found, hung_on(custom, record, index))
        self.assertIs(type(found), tuple)
        return found

    def test_the_example(self):
        custom = Custom([Take("ff", Unborne()), Free("living")], [Take("mm"), Free("ever")])
        rows = [("comes", "a", "s", 1, ()), ("comes", "b", "d", 2, ()), ("weds", "a", "b"),
                ("born", "a", "b", "s", "c", 3), ("comes", "e", "d", 4, ()), ("weds", "c", "e"),
                ("born", "c", "e", "s", "g", 9), ("born", "c", "e", "s", "h", 5)]
        self.assertEqual(self.on(custom, rows), (3, 4, 5, 6))

    def test_rows_that_bring_whom_a_row_names(self):
        self.assertEqual([self.on(PLAIN, ROWS, index) for index in (0, 1, 6)], [(), (), ()])
        self.assertEqual(self.on(PLAIN, ROWS[:3]), (0, 1))
        self.assertEqual(self.on(PLAIN, ROWS[:4] + [("dies", "c")]), (3,))

    def test_rows_that_name_one_person(self):
        # Births of one couple alone do not hang together.
        self.assertEqual(self.on(PLAIN, ROWS[:4]), (0, 1, 2))
        self.assertEqual(self.on(PLAIN, ROWS[:5]), (0, 1, 2))
        self.assertEqual(self.on(PLAIN, ROWS[:6]), (1, 2, 3, 4))
        # A later birth hangs on the father's earlier wedding, and not on the birth by the earlier wife.
        self.assertEqual(self.on(PLAIN, ROWS, 8), (0, 2, 6, 7))
        self.assertEqual(self.on(PLAIN, ROWS, 10), (0, 2, 3, 4, 7, 8))

    def test_a_wedding_behind_the_death_of_a_mate(self):
        self.assertEqual(self.on(PLAIN, ROWS, 7), (0, 2, 3, 4, 5, 6))
        rows = ROWS[:3] + [("dies", "a"), ("comes", "g", "s", 5, ()), ("weds", "g", "b"), ("dies", "g"), ("comes", "h", "s", 5, ()), ("weds", "h", "b")]
        self.assertEqual(self.on(PLAIN, rows, 5), (1, 2, 3, 4))
        self.assertEqual(self.on(PLAIN, rows), (1, 2, 3, 5, 6, 7))

    def test_births_that_count(self):
        for take, free, counts in (((), Free("living"), "sd"), ((), Free("ever", "f"), "sd"), ((Unborne(),), Free(), "sd"), ((Never(),), Free(), "sd"),
                                   ((Number(2),), Free(), "s"), ((Number(2), Never()), Free(), "sd"), ((Unlike("f", "m"),), Free("f"), "")):
            custom = Custom([Take("f", *take), free], [Free()])
            for elder, younger in itertools.product("sd", repeat=2):
                rows = ROWS[:3] + [("born", "a", "b", elder, "c", 7), ("born", "a", "b", younger, "e", 8)]
                # The clauses of the kind of either one count.
                told = younger == "s" and elder in counts or elder == "s" and younger in counts
                self.assertEqual(self.on(custom, rows), (0, 1, 2) + ((3,) if told else ()), (str(custom), elder, younger))

    def test_deaths_that_are_asked(self):
        for condition in (Alive("fm"), Dead("fm")):
            custom = Custom([Take("f", condition), Free()], [Free()])
            rows = ROWS[:4] + [("comes", "k", "d", 5, ()), ("weds", "c", "k")]
            for kind, told in (("s", True), ("d", False)):
                born = ("born", "c", "k", kind, "l", 6)
                self.assertEqual(self.on(custom, rows + [("dies", "b"), born]), (3, 4, 5) + ((6,) if told else ()))
                self.assertEqual(self.on(custom, rows + [born, ("dies", "b")]), (1, 2, 3) + ((6,) if told else ()))
                self.assertEqual(self.on(custom, rows + [("dies", "a"), born]), (3, 4, 5))
                self.assertEqual(self.on(custom, rows + [born, ("dies", "a")]), (0, 2, 3))

    def test_deaths_of_siblings(self):
        for clauses, told in (([Take("f", Unborne()), Free()], True), ([Free("living")], True), ([Take("f", Never()), Free("ever")], False)):
            custom = Custom(clauses, [Free()])
            # The elder one's death ahead of the younger one's birth and behind it, and the younger one's death.
            for kind, hangs in (("s", told), ("d", False)):
                rows = ROWS[:3] + [("born", "a", "b", "s", "c", 7)]
                born = ("born", "a", "b", kind, "e", 8)
                self.assertEqual(4 in self.on(custom, rows + [("dies", "c"), born]), hangs)
                self.assertEqual(4 in self.on(custom, rows + [born, ("dies", "c")]), hangs)
                rows = ROWS[:3] + [born]
                self.assertEqual(3 in self.on(custom, rows + [("born", "a", "b", "d", "c", 7), ("dies", "c")]), hangs)
            # Half siblings are no siblings.
            self.assertEqual(3 in self.on(custom, ROWS, 9), True)
            self.assertEqual(8 in self.on(custom, ROWS, 9), False)

    def test_clauses_never_reached(self):
        custom = Custom([Take("f"), Take("m", Dead("fm"), Unborne()), Free()], [Free()])
        rows = ROWS[:4] + [("comes", "k", "d", 5, ()), ("weds", "c", "k"), ("dies", "b"), ("born", "c", "k", "s", "l", 6)]
        self.assertEqual(self.on(custom, rows), (3, 4, 5, 6))
        rows = rows + [("born", "c", "k", "d", "n", 6), ("dies", "n")]
        self.assertEqual(self.on(custom, rows), (7, 8))

    def test_no_rows(self):
        rows = Record(0, ROWS)
        for thing in ODD_THINGS + (-1, len(ROWS), 10 ** 9, AlwaysEqual()):
            self.refused(NoRow, (thing,), Hanging(PLAIN, rows).on, thing)
            self.refused(NoRow, (thing,), Hanging(PLAIN, rows).cone, thing)
        self.refused(NoRow, (0,), Hanging(PLAIN, Record(0)).on, 0)
        self.refused(NoRow, (0,), Hanging(PLAIN, Record(0)).cone, 0)

    def test_width(self):
        self.refused(BadWidth, (1,), Hanging, PLAIN, Record(1))
        self.refused(BadWidth, (2,), named_alone, PLAIN, Record(2), None)

    def test_the_record_need_not_fit(self):
        custom = Custom([Free("f")], [Free()])
        record = Record(0, ROWS[:3] + [("born", "a", "b", "s", "c", 1)])
        self.assertFalse(fits(custom, record))
        self.assertEqual(Hanging(custom, record).on(3), (0, 1, 2))
        self.assertEqual(Hanging(custom, record).reordered([1, 0, 2, 3]).rows[0], ROWS[1])

    def test_by_chance(self):
        rng = random.Random(301)
        for _ in range(150):
            custom = chance_custom(rng, longest=3)
            record = chance_record(rng, custom, rng.randint(5, 25))
            hanging = Hanging(custom, record)
            for index in range(len(record)):
                self.assertEqual(hanging.on(index), hung_on(custom, record, index))
                cone = {index}
                while True:
                    further = cone | {other for held in cone for other in hung_on(custom, record, held)}
                    if further == cone:
                        break
                    cone = further
                self.assertEqual(hanging.cone(index), tuple(sorted(cone)))


class OrderTest(Checks):
    def setUp(self):
        self.hanging = Hanging(PLAIN, Record(0, ROWS))

    def test_words(self):
        for order, fault in (
            ((), None), ([], None), ((0,), None), ((1, 0), None), ([1, 0, 2], None), ((6, 1, 0), None), (tuple(range(11)), None),
            ((2,), (0, "early")), ((0, 2, 1), (1, "early")), ((0, 1, 2, 4, 3, 5), None), ((0, 1, 2, 4, 5), (4, "early")),
            ((0, 0), (1, "double")), ((0, 1, 0, 99), (2, "double")), ((0, 11), (1, "row")), ((-1,), (0, "row")), ((0, 1, 2, 2), (3, "double")),
            ((0, 1, 2, 3, 4, 6, 7, 5), (6, "early")), ((0, 2, 0), (1, "early")), ((0, True), (1, "row")), ((0, 1, 2, 10), (3, "early")),
        ):
            self.assertEqual(self.hanging.order_fault(order), fault, order)
            if fault is None:
                self.assertEqual(self.hanging.reordered(order), Record(0, [ROWS[index] for index in order]))
            else:
                self.refused(BadOrder, fault, self.hanging.reordered, order)

    def test_no_orders(self):
        for thing in [thing for thing in ODD_THINGS if not isinstance(thing, (list, tuple))] + [range(2), AlwaysEqual()]:
            self.assertEqual(self.hanging.order_fault(thing), (0, "order"))
            self.refused(BadOrder, (0, "order"), self.hanging.reordered, thing)
        for thing in ODD_THINGS + (AlwaysEqual(), 11):
            self.assertEqual(self.hanging.order_fault([0, thing]), (1, "row"))
            self.refused(BadOrder, (1, "row"), self.hanging.reordered, (0, thing))

    def test_every_let_order_of_small_records(self):
        custom = Custom([Take("ff", Unborne()), Take("f", Number(2)), Free("living")], [Take("m", Dead("mf")), Free("ever")])
        rows = [("comes", "a", "s", 1, ()), ("comes", "b", "d", 2, ()), ("weds", "a", "b"), ("born", "a", "b", "s", "c", 3),
                ("born", "a", "b", "d", "e", 4), ("born", "a", "b", "s", "g", 5), ("dies", "c")]
        self.hold_orders(custom, Record(0, rows))
        rng = random.Random(302)
        for _ in range(25):
            custom = chance_custom(rng)
            self.hold_orders(custom, chance_record(rng, custom, 6))

    def hold_orders(self, custom, record):
        """Each let order, rows left out or not, is a record that fits and names alike; orders not let need not be."""
        naming = Naming(custom, record)
        hanging = Hanging(custom, record)
        many = 0
        for size in range(len(record) + 1):
            for order in itertools.permutations(range(len(record)), size):
                if hanging.order_fault(order) is None:
                    many += 1
                    self.hold_alike(naming, Naming(custom, hanging.reordered(order)))
        self.assertGreater(many, len(record))

    def hold_alike(self, naming, other):
        for label in other:
            for told in ("given_of", "first_house_of", "clause_of", "passed_of"):
                self.assertEqual(getattr(other, told)(label), getattr(naming, told)(label), (told, label))

    def test_chance_orders_of_longer_records(self):
        rng = random.Random(303)
        for _ in range(60):
            custom = chance_custom(rng, longest=3)
            record = chance_record(rng, custom, 25)
            hanging = Hanging(custom, record)
            order = []
            while rng.random() < 0.99:
                free = [index for index in range(len(record)) if index not in order and hanging.order_fault(order + [index]) is None]
                if not free:
                    break
                order.append(rng.choice(free))
            self.hold_alike(Naming(custom, record), Naming(custom, hanging.reordered(order)))

    def test_long_records(self):
        # A couple of many children, each of which counts for all.
        custom = Custom([Take("ff", Never()), Free("living")], [Free()])
        rows = ROWS[:3] + [("born", "a", "b", "s", f"c{chr(97 + n // 26)}{chr(97 + n % 26)}", n) for n in range(600)]
        hanging = Hanging(custom, Record(0, rows))
        self.assertEqual(len(hanging.on(602)), 602)
        self.assertEqual(hanging.cone(602), tuple(range(603)))
        self.assertIsNone(hanging.order_fault(list(range(603))))
        rows = line_rows(1400)
        hanging = Hanging(PLAIN, Record(0, rows))
        self.assertEqual(len(hanging.cone(len(rows) - 1)), len(rows))


class AloneTest(Checks):
    def test_ordinary(self):
        custom = Custom([Take("ff", Unborne()), Free("living")], [Take("mm"), Free("ever")], house=[("f", 0)])
        rows = [("comes", "a", "s", 1, (7,)), ("comes", "b", "d", 2, (8,)), ("weds", "a", "b"),
                ("born", "a", "b", "s", "c", 3), ("comes", "e", "d", 4, (9,)), ("weds", "c", "e"),
                ("born", "c", "e", "s", "g", 9), ("born", "c", "e", "s", "h", 5)]
        record = Record(1, rows)
        self.assertEqual(named_alone(custom, record, "a"), (1, (7,), None, ()))
        self.assertEqual(named_alone(custom, record, "c"), (3, (7,), 1, ("nobody",)))
        self.assertEqual(named_alone(custom, record, "h"), (5, (7,), 1, (0,)))

    def test_errors(self):
        custom = Custom([Free("f")], [Free("m")])
        rows = ROWS[:3] + [("born", "a", "b", "s", "c", 1), ("born", "a", "b", "d", "e", 4), ("comes", "g", "d", 9, ()), ("weds", "c", "g"),
                           ("born", "c", "g", "d", "h", 9), ("born", "c", "g", "d", "k", 8)]
        record = Record(0, rows)
        for label in ODD_THINGS + ("x", AlwaysEqual()):
            self.refused(NoPerson, (label,), named_alone, custom, record, label)
        # A barred choice in the cone, and others outside of it.
        self.refused(BadChoice, ("c", 1, 0), named_alone, custom, record, "c")
        self.refused(BadChoice, ("c", 1, 0), named_alone, custom, record, "h")
        self.refused(BadChoice, ("c", 1, 0), named_alone, custom, record, "k")
        self.assertEqual(named_alone(custom, record, "e"), (4, (), 0, ()))
        self.assertEqual(named_alone(custom, record, "g"), (9, (), None, ()))
        good = Record(0, [row if row[-1] != 1 or row[0] != "born" else row[:5] + (3,) for row in rows])
        self.refused(BadChoice, ("h", 9, 0), named_alone, custom, good, "h")
        self.assertEqual(named_alone(custom, good, "k"), (8, (), 0, ()))
        self.refused(BadChoice, ("h", 9, 0), Naming, custom, good)

    def test_as_the_naming_tells(self):
        rng = random.Random(304)
        for _ in range(80):
            custom = chance_custom(rng, longest=3)
            record = chance_record(rng, custom, rng.randint(5, 30))
            naming = Naming(custom, record)
            for label in naming:
                told = (naming.given_of(label), naming.first_house_of(label), naming.clause_of(label), naming.passed_of(label))
                self.assertEqual(named_alone(custom, record, label), told)


class AllRecordsTest(Checks):
    """What [3.13] says of beginnings, deaths, Takes and further births."""

    def test_beginnings_deaths_and_takes(self):
        rng = random.Random(305)
        for _ in range(60):
            custom = chance_custom(rng)
            record = chance_record(rng, custom, 20)
            naming = Naming(custom, record)
            part = Naming(custom, record.until(rng.randint(0, 20)))
            self.assertTrue(all(part.given_of(label) == naming.given_of(label) for label in part))
            self.assertTrue(all(part.first_house_of(label) == naming.first_house_of(label) for label in part))
            if record.living:
                later = Naming(custom, record.after(("dies", rng.choice(record.living))))
                self.assertEqual(naming, later)
