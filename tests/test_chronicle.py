"""Chronicles [3.12]."""

from namesakes.chronicle import Chronicle
from namesakes.clauses import Free, Take, Unborne
from namesakes.customs import Custom
from namesakes.errors import BadChoice, BadRecord, NoRow
from namesakes.naming import Naming
from namesakes.records import Record
from tests.checks import Checks
from tests.families import ODD_THINGS

FREE = [Free()]
CUSTOM = Custom([Take("ff", Unborne()), Free("living")], [Take("mm"), Free("ever")])
ROWS = (
    ("comes", "a", "s", 1, ()), ("comes", "b", "d", 2, ()), ("weds", "a", "b"),
    ("born", "a", "b", "s", "c", 3), ("comes", "e", "d", 4, ()), ("weds", "c", "e"),
    ("born", "c", "e", "s", "g", 9), ("born", "c", "e", "s", "h", 5),
)
BARRED = ("born", "c", "e", "s", "i", 5)


class Odd(Exception):
    pass


class ChronicleTest(Checks):
    def hold(self, chronicle, rows):
        """The chronicle has just these rows."""
        record = Record(chronicle.custom.width, rows)
        self.assertEqual(chronicle.record, record)
        self.assertEqual(chronicle.naming, Naming(chronicle.custom, record))
        self.assertEqual(chronicle.naming.record, record)
        self.assertEqual((len(chronicle), list(chronicle)), (len(rows), list(rows)))

    def told(self):
        chronicle = Chronicle(CUSTOM)
        self.assertEqual(chronicle.say_all(ROWS), 8)
        return chronicle

    def test_it_begins_with_no_rows(self):
        for custom in (CUSTOM, Custom(FREE, FREE, house=[("f", 0)]), Custom(FREE, FREE, house=[("f", 0)] * 2)):
            chronicle = Chronicle(custom)
            self.assertIs(chronicle.custom, custom)
            self.hold(chronicle, ())
            self.assertEqual(chronicle.record.width, custom.width)

    def test_say(self):
        chronicle = Chronicle(CUSTOM)
        for index, row in enumerate(ROWS):
            self.assertEqual(chronicle.say(list(row) if index % 2 else row), index)
            self.hold(chronicle, ROWS[:index + 1])
        self.assertEqual(chronicle.naming.given_of("g"), 1)

    def test_what_was_had_before_stays(self):
        chronicle = Chronicle(CUSTOM)
        record, naming = chronicle.record, chronicle.naming
        chronicle.say(ROWS[0])
        self.assertEqual((record, len(naming)), (Record(0), 0))

    def test_refused_rows(self):
        chronicle = self.told()
        for thing in ODD_THINGS + (("dies",), ("comes", "a", "s", True, ())):
            self.refused(BadRecord, (8, "row"), chronicle.say, thing)
        for row, what in ((("dies", "x"), "person"), (("weds", "c", "e"), "wed"), (("comes", "a", "s", 1, ()), "label"),
                          (("comes", "x", "s", 1, (2,)), "width"), (("born", "a", "e", "s", "x", 1), "couple")):
            self.refused(BadRecord, (8, what), chronicle.say, row)
            self.hold(chronicle, ROWS)
        self.refused(BadChoice, ("i", 5, 0), chronicle.say, BARRED)
        self.refused(BadChoice, ("i", 1, 0), chronicle.say, BARRED[:5] + (1,))
        self.hold(chronicle, ROWS)
        self.assertEqual(chronicle.say(BARRED[:5] + (7,)), 8)

    def test_say_all(self):
        chronicle = Chronicle(CUSTOM)
        self.assertEqual(chronicle.say_all([]), 0)
        self.hold(chronicle, ())
        self.assertEqual(chronicle.say_all(list(map(list, ROWS[:3]))), 3)
        self.hold(chronicle, ROWS[:3])
        self.assertEqual(chronicle.say_all(ROWS[3:]), 5)
        self.hold(chronicle, ROWS)

    def test_say_all_refused_in_the_middle(self):
        chronicle = Chronicle(CUSTOM)
        chronicle.say_all(ROWS[:3])
        for rows, error, things in (
            ([ROWS[3], ("dies", "x"), ROWS[4]], BadRecord, (4, "person")), ([ROWS[3], None, BARRED], BadRecord, (4, "row")),
            (ROWS[3:] + (BARRED, ("dies", "a")), BadChoice, ("i", 5, 0)),
            # Row by row: a barred choice goes ahead of a later fault, an earlier fault ahead of a barred choice.
            (ROWS[3:] + (BARRED, ("dies", "x")), BadChoice, ("i", 5, 0)), (ROWS[3:] + (("dies", "x"), BARRED), BadRecord, (8, "person")),
            (ROWS[3:] + (BARRED,) + ROWS[3:], BadChoice, ("i", 5, 0)),
        ):
            self.refused(error, things, chronicle.say_all, rows)
            self.hold(chronicle, ROWS[:3])

    def test_too_many_rows(self):
        chronicle = Chronicle(CUSTOM)
        rows = list(ROWS[:3]) + [("born", "a", "b", "d", "x" + "".join(chr(97 + n // 26 ** k % 26) for k in range(4)), n) for n in range(4996)]
        chronicle.say_all(rows)
        self.refused(BadRecord, (5000, "many"), chronicle.say_all, [("dies", "a"), ("dies", "b")])
        self.refused(BadRecord, (5000, "many"), chronicle.say_all, [("dies", "a"), None])
        self.refused(BadRecord, (4999, "row"), chronicle.say_all, [None, ("dies", "b")])
        self.refused(BadChoice, ("zz", 5, 0), chronicle.say_all, [("born", "a", "b", "d", "zz", 5), ("dies", "b")])
        self.assertEqual(chronicle.say(("dies", "a")), 4999)
        self.refused(BadRecord, (5000, "many"), chronicle.say, ("dies", "b"))
        self.refused(BadRecord, (5000, "many"), chronicle.say, None)
        self.assertEqual(len(chronicle), 5000)
        self.assertEqual(chronicle.take_back(), ("dies", "a"))
        self.assertEqual(chronicle.say_all([("dies", "b")]), 1)
        self.assertEqual(len(chronicle), 5000)

    def test_take_back(self):
        chronicle = self.told()
        for many in reversed(range(8)):
            self.assertEqual(chronicle.take_back(), ROWS[many])
            self.hold(chronicle, ROWS[:many])
        for _ in range(2):
            self.refused(NoRow, (0,), chronicle.take_back)
        self.hold(chronicle, ())
        chronicle.say(list(ROWS[0]))
        self.assertEqual(chronicle.take_back(), ROWS[0])

    def test_a_trial(self):
        chronicle = self.told()
        with chronicle.trial() as inner:
            self.assertIs(inner, chronicle)
            inner.say(("dies", "a"))
            inner.take_back()
            for _ in range(8):
                inner.take_back()
            inner.say(("comes", "z", "s", 1, ()))
        self.hold(chronicle, ROWS)

    def test_it_has_what_it_had_when_the_block_began(self):
        chronicle = Chronicle(CUSTOM)
        trial = chronicle.trial()
        chronicle.say_all(ROWS)
        with trial:
            chronicle.say(("dies", "a"))
        self.hold(chronicle, ROWS)
        # The same one once more, and within itself.
        with trial:
            chronicle.take_back()
            with trial:
                chronicle.take_back()
                self.hold(chronicle, ROWS[:6])
            self.hold(chronicle, ROWS[:7])
        self.hold(chronicle, ROWS)

    def test_trials_within_one_another(self):
        chronicle = self.told()
        with chronicle.trial():
            chronicle.take_back()
            with chronicle.trial() as inner:
                inner.take_back()
                with inner.trial():
                    inner.say(("dies", "a"))
                self.hold(chronicle, ROWS[:6])
            self.hold(chronicle, ROWS[:7])
            chronicle.say(("dies", "b"))
        self.hold(chronicle, ROWS)

    def test_an_error_goes_on(self):
        chronicle = self.told()
        with self.assertRaises(Odd):
            with chronicle.trial():
                chronicle.say(("dies", "a"))
                raise Odd
        self.hold(chronicle, ROWS)
        with self.assertRaises(BadChoice):
            with chronicle.trial():
                with chronicle.trial():
                    chronicle.take_back()
                    chronicle.say_all([BARRED[:5] + (6,), ("born", "c", "e", "s", "j", 6)])
        self.hold(chronicle, ROWS)

    def test_tried(self):
        chronicle = self.told()

        def more(inner):
            self.assertIs(inner, chronicle)
            inner.say(("dies", "a"))
            return (len(inner), inner.tried(lambda again: again.take_back()), len(inner))

        self.assertEqual(chronicle.tried(more), (9, ("dies", "a"), 9))
        self.hold(chronicle, ROWS)
        self.assertIsNone(chronicle.tried(lambda inner: None))

        def wrong(inner):
            inner.take_back()
            raise Odd

        with self.assertRaises(Odd):
            chronicle.tried(wrong)
        self.hold(chronicle, ROWS)

    def test_rows_are_not_kept(self):
        chronicle = Chronicle(Custom(FREE, FREE, house=[("f", 0)]))
        row, house = ["comes", "a", "s", 1, None], [5]
        row[4] = house
        chronicle.say(row)
        chronicle.say_all([row[:1] + ["b"] + row[2:]])
        house[0] = 6
        row[1] = "z"
        self.hold(chronicle, (("comes", "a", "s", 1, (5,)), ("comes", "b", "s", 1, (5,))))
