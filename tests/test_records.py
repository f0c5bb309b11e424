"""Records [1.1] to [1.7]."""

import random

from namesakes.errors import BadRecord, BadWay, NoPerson, NoRow
from namesakes.records import (
    MOST_NAME, MOST_ROWS, MOST_WIDTH, WAYS, Record, beginnings, is_kind, is_label, is_name, is_way, is_whole,
    record_fault,
)
from tests.checks import Checks
from tests.families import ODD_THINGS, AlwaysEqual, chance_custom, chance_record, label_at, line_rows

PAIR = [("comes", "a", "s", 1, ()), ("comes", "b", "d", 2, ()), ("weds", "a", "b")]
ROWS = PAIR + [
    ("born", "a", "b", "s", "c", 3), ("born", "a", "b", "d", "e", 4), ("born", "a", "b", "s", "g", 5),
    ("dies", "c"), ("dies", "b"), ("comes", "h", "d", 6, ()), ("weds", "a", "h"), ("born", "a", "h", "d", "i", 7),
    ("weds", "g", "e"), ("born", "g", "e", "s", "j", 8), ("dies", "a"),
]


class WordsTest(Checks):
    def test_constants(self):
        self.assertEqual((MOST_ROWS, MOST_NAME, MOST_WIDTH), (5000, 10 ** 30, 2))
        self.assertEqual(
            WAYS,
            ("", "f", "m", "ff", "fm", "mf", "mm", "fff", "ffm", "fmf", "fmm", "mff", "mfm", "mmf", "mmm"),
        )

    def test_whole_numbers(self):
        for number in (0, 1, 5):
            self.assertIs(is_whole(number, 0, 5), True)
        self.assertIs(is_whole(-2, -3, -1), True)
        for number in (-1, 6):
            self.assertIs(is_whole(number, 0, 5), False)
        for thing in ODD_THINGS + (AlwaysEqual(), float("nan")):
            self.assertIs(is_whole(thing, 0, 5), False, repr(thing))

    def test_names(self):
        for name in (0, 1, 10 ** 30):
            self.assertIs(is_name(name), True)
        for thing in ODD_THINGS + (-1, 10 ** 30 + 1, AlwaysEqual()):
            self.assertIs(is_name(thing), False, repr(thing))

    def test_labels(self):
        for label in ("a", "z", "azazaz", "s", "abcde"):
            self.assertIs(is_label(label), True)
        for thing in ("abcdefg", "", "A", "a1", "a b", "\u00e9", "a\n", "`", "{", b"a", ["a"]) + (AlwaysEqual(),):
            self.assertIs(is_label(thing), False, repr(thing))
        for thing in ODD_THINGS:
            self.assertIs(is_label(thing), thing == "own", repr(thing))

    def test_kinds(self):
        for kind in ("s", "d"):
            self.assertIs(is_kind(kind), True)
        for thing in ODD_THINGS + ("sd", "m", "f", ["s"], b"s", AlwaysEqual()):
            self.assertIs(is_kind(thing), False, repr(thing))

    def test_ways(self):
        self.assertIs(is_way("", 0, 3), True)
        self.assertIs(is_way("", 1, 3), False)
        self.assertIs(is_way("fmf", 1, 3), True)
        self.assertIs(is_way("fm", 3, 4), False)
        self.assertIs(is_way("fmfm", 1, 3), False)
        self.assertIs(is_way("fmfm", 4, 4), True)
        for thing in ("x", "fx", "f.0", "F", ["f"], ("f",), b"f", AlwaysEqual()):
            self.assertIs(is_way(thing, 0, 9), False, repr(thing))
        for thing in ODD_THINGS:
            self.assertIs(is_way(thing, 1, 9), False, repr(thing))


class FaultTest(Checks):
    def fault(self, wanted, width, rows):
        self.assertEqual(record_fault(width, rows), wanted)
        if wanted is None:
            self.assertEqual(len(Record(width, rows)), len(rows))
        else:
            self.refused(BadRecord, wanted, Record, width, rows)

    def test_records_have_none(self):
        for rows in ([], (), PAIR, tuple(PAIR), [list(row) for row in PAIR], ROWS):
            self.fault(None, 0, rows)
        self.fault(None, 2, [["comes", "a", "s", 0, [0, 10 ** 30]], ("comes", "b", "d", 10 ** 30, (1, 1))])

    def test_the_width(self):
        for width in ODD_THINGS + (-1, 3):
            self.fault((0, "width"), width, [])
            self.fault((0, "width"), width, None)
        for width in (0, 1, 2):
            self.fault(None, width, [])

    def test_the_rows_are_a_sequence(self):
        for rows in (None, True, "abc", {"a": 1}, iter([]), 5, b""):
            self.fault((0, "rows"), 0, rows)

    def test_many_rows(self):
        rows = [("comes", label_at(number), "s", 0, ()) for number in range(5001)]
        self.fault(None, 0, rows[:5000])
        self.fault((5000, "many"), 0, rows)
        self.fault((5000, "many"), 0, [None] + rows[1:])
        self.fault((0, "width"), 3, rows)

    def test_the_form_of_a_row(self):
        good = {0: PAIR[0], 2: PAIR[2], 3: ("born", "a", "b", "s", "c", 3)}
        for index, row in good.items():
            for wrong in (row + (1,), row[:-1], (), (row[0],), ("dies",) + row[1:], ("Comes",) + row[1:], row[1:]):
                self.fault((index, "row"), 0, PAIR[:index] + [wrong])
            for place in range(len(row)):
                for thing in ODD_THINGS + (AlwaysEqual(), -1, 10 ** 30 + 1, "toolong", "A", 0.5):
                    if place and thing == row[place] and type(thing) is type(row[place]):
                        continue
                    if is_label(thing) and place in {0: (1,), 2: (1, 2), 3: (1, 2, 4)}[index]:
                        continue
                    if index == 0 and place == 4 and isinstance(thing, (list, tuple)):
                        continue
                    wrong = row[:place] + (thing,) + row[place + 1:]
                    self.fault((index, "row"), 0, PAIR[:index] + [wrong])
        for row in (None, "comes", 5, {"comes": 1}, ("dies", "a", "b"), ("dies", 1), ("dies",), AlwaysEqual()):
            self.fault((3, "row"), 0, PAIR + [row])

    def test_house_names(self):
        for house in ([None], (True,), (-1,), (10 ** 30 + 1,), ("1",), (1, 2.0), "ab", {1: 2}, None):
            self.fault((0, "row"), 1, [("comes", "a", "s", 1, house)])
        for width in (0, 1, 2):
            for many in range(5):
                wanted = None if many == width else (0, "width")
                self.fault(wanted, width, [("comes", "a", "s", 1, (7,) * many)])

    def test_comings(self):
        self.fault((3, "label"), 0, PAIR + [("comes", "a", "d", 1, ())])
        self.fault((4, "label"), 0, PAIR + [("dies", "a"), ("comes", "a", "d", 1, ())])
        self.fault((3, "label"), 0, PAIR + [("comes", "a", "d", 1, (5,))])
        self.fault((3, "width"), 0, PAIR + [("comes", "c", "d", 1, (5,))])

    def test_weddings(self):
        unwed = PAIR[:2] + [("comes", "c", "s", 1, ()), ("comes", "d", "d", 1, ()), ("weds", "a", "b")]
        for pair in (("a", "x"), ("x", "b"), ("x", "y"), ("b", "x")):
            self.fault((5, "person"), 0, unwed + [("weds",) + pair])
        for pair in (("d", "c"), ("a", "c"), ("d", "b"), ("a", "a"), ("b", "b"), ("b", "a")):
            self.fault((5, "kind"), 0, unwed + [("weds",) + pair])
        self.fault((6, "kind"), 0, unwed + [("dies", "c"), ("weds", "a", "c")])
        for who in ("c", "d"):
            self.fault((6, "dead"), 0, unwed + [("dies", who), ("weds", "c", "d")])
        self.fault((6, "dead"), 0, unwed + [("dies", "d"), ("weds", "a", "d")])
        for pair in (("a", "b"), ("a", "d"), ("c", "b")):
            self.fault((5, "wed"), 0, unwed + [("weds",) + pair])

    def test_people_wed_again(self):
        rows = PAIR + [("comes", "c", "s", 1, ()), ("comes", "d", "d", 1, ()), ("dies", "a"), ("weds", "c", "b")]
        self.fault(None, 0, rows)
        self.fault((7, "wed"), 0, rows + [("weds", "c", "d")])
        self.fault(None, 0, rows + [("dies", "b"), ("weds", "c", "d")])
        self.fault((7, "dead"), 0, rows + [("weds", "a", "d")])

    def test_kin_may_wed(self):
        rows = PAIR + [("born", "a", "b", "s", "c", 1), ("born", "a", "b", "d", "e", 1), ("weds", "c", "e")]
        self.fault(None, 0, rows + [("dies", "b"), ("born", "c", "e", "d", "g", 1), ("weds", "a", "g")])

    def test_births(self):
        for pair in (("a", "x"), ("x", "b")):
            self.fault((3, "person"), 0, PAIR + [("born",) + pair + ("s", "a", 1)])
        self.fault((3, "couple"), 0, PAIR + [("born", "b", "a", "s", "a", 1)])
        self.fault((3, "couple"), 0, PAIR + [("born", "a", "a", "s", "c", 1)])
        for who in ("a", "b"):
            self.fault((4, "couple"), 0, PAIR + [("dies", who), ("born", "a", "b", "s", "a", 1)])
        self.fault((2, "couple"), 0, PAIR[:2] + [("born", "a", "b", "s", "c", 1)])
        self.fault((3, "label"), 0, PAIR + [("born", "a", "b", "s", "b", 1)])
        again = PAIR + [("dies", "b"), ("comes", "c", "d", 1, ()), ("weds", "a", "c")]
        self.fault((6, "couple"), 0, again + [("born", "a", "b", "s", "x", 1)])
        self.fault(None, 0, again + [("born", "a", "c", "s", "x", 1)])

    def test_deaths(self):
        self.fault((3, "person"), 0, PAIR + [("dies", "x")])
        self.fault((4, "dead"), 0, PAIR + [("dies", "a"), ("dies", "a")])
        self.fault(None, 0, PAIR + [("dies", "a"), ("dies", "b")])

    def test_the_first_fault_is_told(self):
        self.fault((1, "label"), 0, [PAIR[0], PAIR[0], None])
        self.fault((1, "row"), 0, [PAIR[0], None, PAIR[0]])

    def test_more_than_a_thousand_generations(self):
        self.fault(None, 0, line_rows(1600))


class RecordTest(Checks):
    def setUp(self):
        self.record = Record(0, ROWS)

    def test_attributes(self):
        record = self.record
        self.assertEqual(record.width, 0)
        self.assertEqual(record.rows, tuple(ROWS))
        self.assertEqual(record.persons, ("a", "b", "c", "e", "g", "h", "i", "j"))
        self.assertEqual(record.founders, ("a", "b", "h"))
        self.assertEqual(record.born, ("c", "e", "g", "i", "j"))
        self.assertEqual(record.weddings, (("a", "b"), ("a", "h"), ("g", "e")))
        self.assertEqual(record.couples, (("g", "e"),))
        self.assertEqual(record.living, ("e", "g", "h", "i", "j"))
        self.assertEqual(len(record), 14)
        self.assertEqual(list(record), ROWS)

    def test_no_rows(self):
        record = Record(2)
        told = (record.rows, record.persons, record.founders, record.born, record.weddings, record.couples)
        self.assertEqual(told, ((),) * 6)
        self.assertEqual((record.living, len(record), list(record), record.width), ((), 0, [], 2))
        self.assertEqual(record, Record(2, []))

    def test_rows_become_tuples_and_nothing_is_kept(self):
        house = [3]
        row = ["comes", "a", "s", 1, house]
        rows = [row, ["dies", "a"]]
        record = Record(1, rows)
        house[0] = 9
        row[3] = 9
        del rows[1]
        self.assertEqual(record.rows, (("comes", "a", "s", 1, (3,)), ("dies", "a")))
        self.assertTrue(all(type(row) is tuple for row in record.rows) and type(record.rows[0][4]) is tuple)

    def test_nobody(self):
        methods = ["kind_of", "father_of", "mother_of", "mate_of", "mates_of", "siblings_of", "number_of", "is_alive", "row_of"]
        for thing in ODD_THINGS + ("x", "toolong", ["a"], AlwaysEqual()):
            for method in methods:
                self.refused(NoPerson, (thing,), getattr(self.record, method), thing)
            self.refused(NoPerson, (thing,), self.record.elder_of, thing, "f")
            self.refused(NoPerson, (thing,), self.record.elder_of, thing, "x")
            self.refused(NoPerson, (thing,), self.record.children_of, thing, "b")
            self.refused(NoPerson, (thing,), self.record.children_of, "a", thing)
        self.refused(NoPerson, ("x",), self.record.children_of, "x", "y")

    def test_kinds_and_parents(self):
        record = self.record
        self.assertEqual([record.kind_of(who) for who in record.persons], list("sdsdsdds"))
        self.assertEqual([record.father_of(who) for who in record.persons], [None, None, "a", "a", "a", None, "a", "g"])
        self.assertEqual([record.mother_of(who) for who in record.persons], [None, None, "b", "b", "b", None, "h", "e"])

    def test_elders(self):
        record = self.record
        ways = {"": "j", "f": "g", "m": "e", "ff": "a", "fm": "b", "mf": "a", "mm": "b", "fff": None, "mmm": None}
        for way, elder in ways.items():
            self.assertEqual(record.elder_of("j", way), elder)
        self.assertIsNone(record.elder_of("a", "f"))
        self.assertEqual(record.elder_of("a", ""), "a")
        for way in ODD_THINGS + ("x", "ffff", "f.0", ["f"], AlwaysEqual()):
            if way != "" or isinstance(way, AlwaysEqual):
                self.refused(BadWay, (way,), record.elder_of, "a", way)

    def test_mates(self):
        record = self.record
        self.assertEqual([record.mate_of(who) for who in record.persons], [None, None, None, "g", "e", None, None, None])
        self.assertEqual(record.mates_of("a"), ("b", "h"))
        self.assertEqual(record.mates_of("b"), ("a",))
        self.assertEqual(record.mates_of("h"), ("a",))
        self.assertEqual(record.mates_of("c"), ())
        earlier = record.until(8)
        self.assertEqual((earlier.mate_of("a"), earlier.mate_of("b")), (None, None))
        self.assertEqual(record.until(7).mate_of("b"), "a")

    def test_children_and_siblings(self):
        record = self.record
        self.assertEqual(record.children_of("a", "b"), ("c", "e", "g"))
        self.assertEqual(record.children_of("a", "h"), ("i",))
        for pair in (("b", "a"), ("a", "a"), ("c", "e"), ("a", "e")):
            self.assertEqual(record.children_of(*pair), ())
        self.assertEqual(record.siblings_of("c"), ("e", "g"))
        self.assertEqual(record.siblings_of("g"), ("c", "e"))
        self.assertEqual(record.siblings_of("i"), ())
        self.assertEqual(record.siblings_of("a"), ())

    def test_numbers_lives_and_rows(self):
        record = self.record
        self.assertEqual([record.number_of(who) for who in record.persons], [None, None, 1, 1, 2, None, 1, 1])
        alive = [record.is_alive(who) for who in record.persons]
        self.assertEqual(alive, [False, False, False, True, True, True, True, True])
        self.assertTrue(all(type(life) is bool for life in alive))
        self.assertEqual([record.row_of(who) for who in record.persons], [0, 1, 3, 4, 5, 8, 10, 12])

    def test_twins_are_two_rows(self):
        record = Record(0, PAIR + [("born", "a", "b", "s", "c", 1), ("born", "a", "b", "s", "e", 1)])
        self.assertEqual((record.number_of("c"), record.number_of("e")), (1, 2))

    def test_after(self):
        record = Record(0, PAIR)
        self.assertEqual(record.after(), record)
        self.assertEqual(record.after(*ROWS[3:]), self.record)
        self.assertEqual(len(record), 3)
        self.refused(BadRecord, (4, "person"), record.after, ("dies", "a"), ("dies", "x"))
        self.refused(BadRecord, (3, "row"), record.after, None)

    def test_until_and_shorter(self):
        for many in range(15):
            self.assertEqual(self.record.until(many), Record(0, ROWS[:many]))
        for thing in ODD_THINGS + (-1, 15):
            self.refused(NoRow, (thing,), self.record.until, thing)
        self.assertEqual(self.record.shorter(), Record(0, ROWS[:-1]))
        self.refused(NoRow, (0,), Record(0).shorter)

    def test_beginnings(self):
        found = list(beginnings(self.record))
        self.assertEqual(found, [Record(0, ROWS[:many]) for many in range(15)])
        self.assertEqual(list(beginnings(Record(1))), [Record(1)])
        self.assertEqual(next(beginnings(Record(1))), Record(1))

    def test_equality(self):
        self.assertEqual(self.record, Record(0, [list(row) for row in ROWS]))
        self.unlike_all(self.record, Record(0, ROWS[:-1]), tuple(ROWS), ROWS, None, 0)
        self.unlike_all(Record(0), Record(1), (), 0)

    def test_a_long_line(self):
        rows = line_rows(1500)
        record = Record(0, rows)
        last = record.born[-1]
        self.assertEqual(record.elder_of(last, "fff"), record.born[-4])
        self.assertEqual(record.elder_of(last, "ffm"), record.mother_of(record.born[-3]))

    def test_by_chance_the_rows_tell_the_same(self):
        rng = random.Random(1)
        for _ in range(40):
            custom = chance_custom(rng)
            self.hold_against_rows(chance_record(rng, custom, 25))

    def hold_against_rows(self, record):
        rows = record.rows
        births = {row[4]: row for row in rows if row[0] == "born"}
        dead = [row[1] for row in rows if row[0] == "dies"]
        weddings = [row[1:] for row in rows if row[0] == "weds"]
        self.assertEqual(record.weddings, tuple(weddings))
        self.assertEqual(record.couples, tuple(pair for pair in weddings if not set(pair) & set(dead)))
        for who in record.persons:
            mates = [b if a == who else a for a, b in weddings if who in (a, b)]
            self.assertEqual(record.mates_of(who), tuple(mates))
            living = [mate for mate in mates if mate not in dead and who not in dead]
            self.assertEqual(record.mate_of(who), living[0] if living else None)
            row = births.get(who)
            self.assertEqual((record.father_of(who), record.mother_of(who)), row[1:3] if row else (None, None))
            siblings = [other for other in births if row and births[other][1:3] == row[1:3] and other != who]
            self.assertEqual(record.siblings_of(who), tuple(siblings))
            alike = [other for other in births if row and births[other][1:4] == row[1:4]]
            self.assertEqual(record.number_of(who), alike.index(who) + 1 if row else None)
            self.assertEqual(record.is_alive(who), who not in dead)
