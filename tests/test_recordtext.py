"""Records as texts [1.11] to [1.13]."""

import random

from namesakes.errors import BadText
from namesakes.records import Record, record_fault
from namesakes.recordtext import parse_record, person_rows, record_text
from tests.checks import Checks
from tests.families import ODD_THINGS, chance_custom, chance_record, label_at

ROWS = [
    ("comes", "a", "s", 10, (5, 0)), ("comes", "abcdef", "d", 0, (6, 10 ** 30)), ("weds", "a", "abcdef"),
    ("born", "a", "abcdef", "d", "c", 3), ("dies", "abcdef"),
]
TEXT = (
    "width 2\ncomes a s 10 5 0\ncomes abcdef d 0 6 1000000000000000000000000000000\nweds a abcdef\n"
    "born a abcdef d c 3\ndies abcdef"
)


class RecordTextTest(Checks):
    def test_there_and_back(self):
        self.assertEqual(record_text(Record(2, ROWS)), TEXT)
        self.assertEqual(parse_record(TEXT), Record(2, ROWS))
        for width in range(3):
            self.assertEqual(record_text(Record(width)), f"width {width}")
            self.assertEqual(parse_record(f"width {width}"), Record(width))

    def test_no_string(self):
        for thing in ODD_THINGS + ([TEXT], TEXT.encode()):
            if not isinstance(thing, str):
                self.refused(BadText, (0, "text"), parse_record, thing)

    def test_the_first_row(self):
        for head in ("", "width", "width 3", "width 00", "width 0 ", " width 0", "Width 0", "width  0", "width 0\r", "\nwidth 0"):
            self.refused(BadText, (1, "width"), parse_record, head)
            self.refused(BadText, (1, "width"), parse_record, head + "\nnonsense")

    def test_rows_that_are_none(self):
        good = {
            "comes a s 1": ["comes a s", "comes a s x", "comes a x 1", "comes A s 1", "comes toolong s 1", "comes a s 1 x",
                            "comes a s", "comes a", "comes", "comes a s 1 1 -1", "comes a s 1,1", "come a s 1"],
            "weds a b": ["weds a", "weds a b c", "weds a 1", "weds", "weds A b", "wed a b"],
            "born a b s c 1": ["born a b s c", "born a b s c 1 1", "born a b x c 1", "born a b s 1 1", "born 1 b s c 1",
                               "born a 1 s c 1", "born a b s c x", "born"],
            "dies a": ["dies", "dies a b", "dies 1", "died a"],
        }
        for row, wrong in good.items():
            spaced = [f" {row}", f"{row} ", row.replace(" ", "  ", 1), row.replace(" ", "\t", 1), "", " ", row + "\r"]
            for text in wrong + spaced:
                self.refused(BadText, (2, "row"), parse_record, f"width 0\n{text}")
                self.refused(BadText, (3, "row"), parse_record, f"width 1\ncomes a s 1 1\n{text}\ncomes a s 1 1")
                self.refused(BadText, (2, "row"), parse_record, f"width 0\n{text}\nagain")

    def test_the_end_of_the_text(self):
        self.refused(BadText, (2, "row"), parse_record, "width 0\n")
        self.refused(BadText, (3, "row"), parse_record, "width 0\ncomes a s 1\n")

    def test_names(self):
        for name in ("00", "01", "-1", "+1", "1_0", "1.0", "\u0661", "\u00b2", "0x1", "1e3", "1000000000000000000000000000001",
                     "9" * 31, "9" * 5000, "0" * 31):
            for row in (f"comes a s {name}", f"comes a s 1 {name}", f"born a b s c {name}"):
                self.refused(BadText, (2, "row"), parse_record, f"width 0\n{row}")
        for name in ("0", "9", "10", str(10 ** 30)):
            self.assertEqual(parse_record(f"width 1\ncomes a s {name} {name}").rows[0][3:], (int(name), (int(name),)))

    def test_rows_go_ahead_of_faults(self):
        self.refused(BadText, (4, "row"), parse_record, "width 0\ndies a\nweds a b\nx")
        self.refused(BadText, (2, "person"), parse_record, "width 0\ndies a\nweds a b")
        self.refused(BadText, (2, "width"), parse_record, "width 2\ncomes a s 1 1")
        self.refused(BadText, (2, "width"), parse_record, "width 2\ncomes a s 1 1 1 1")
        self.refused(BadText, (3, "label"), parse_record, "width 0\ncomes a s 1\ncomes a s 1")

    def test_many_rows(self):
        rows = [f"comes {label_at(number)} s 1" for number in range(5001)]
        self.assertEqual(len(parse_record("\n".join(["width 0"] + rows[:5000]))), 5000)
        self.refused(BadText, (5002, "many"), parse_record, "\n".join(["width 0"] + rows))
        self.refused(BadText, (5003, "row"), parse_record, "\n".join(["width 0"] + rows + ["x"]))

    def test_by_chance_every_record_is_read_back(self):
        rng = random.Random(4)
        for _ in range(40):
            record = chance_record(rng, chance_custom(rng), 20, pool=10 ** 30)
            text = record_text(record)
            self.assertEqual(parse_record(text), record)
            self.assertEqual(record_text(parse_record(text)), text)

    def test_by_chance_spoilt_texts_are_refused_or_read_back(self):
        rng = random.Random(5)
        signs = "abfsd 0123\n-"
        for _ in range(3000):
            at = rng.randrange(len(TEXT))
            text = TEXT[:at] + rng.choice(["", rng.choice(signs)]) + TEXT[at + rng.randrange(2):]
            try:
                record = parse_record(text)
            except BadText as error:
                self.assertIn(error.what, ("width", "row", "label", "person", "kind", "dead", "wed", "couple"))
            else:
                self.assertEqual(record_text(record), text)

    def test_the_fault_is_that_of_the_rows(self):
        rows = ROWS + [("dies", "a"), ("weds", "a", "abcdef")]
        index, what = record_fault(2, rows)
        text = TEXT + "\ndies a\nweds a abcdef"
        self.refused(BadText, (index + 2, what), parse_record, text)

    def test_person_rows(self):
        self.assertEqual(person_rows(Record(2, ROWS)), (
            "a      s      -      - alive",
            "abcdef d      -      -  dead",
            "c      d      a abcdef alive",
        ))
        self.assertEqual(person_rows(Record(0)), ())
