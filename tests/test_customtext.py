"""Customs from texts [2.9]."""

import random

from namesakes.clauses import Alive, Dead, Free, Never, Number, Take, Unborne, Unlike
from namesakes.customs import Custom
from namesakes.customtext import parse_custom
from namesakes.errors import BadText
from tests.checks import Checks
from tests.families import ODD_THINGS, chance_custom

WIDE = Custom(
    [Take("ff", Number(1), Alive("m"), Dead("fmf"), Unborne()), Take("f.1", Never(), Unlike("f", "m.0")), Free("living", "m.0")],
    [Take("mm"), Free("ever", "f", "mmm", "f.1")],
    house=[("f", 1), ("given", "m")], son_weds=["own", 0], daughter_weds=[1, "own"],
)
ROWS = str(WIDE).split("\n")


def text(rows):
    return "\n".join(rows)


def plain(sons=("free",), daughters=("free",), *more):
    return text(["custom", "sons", *sons, "daughters", *daughters, *more])


class CustomTextTest(Checks):
    def test_there_and_back(self):
        self.assertEqual(parse_custom(str(WIDE)), WIDE)
        self.assertEqual(len(ROWS), 11)
        self.assertEqual(parse_custom(plain()), Custom([Free()], [Free()]))
        rng = random.Random(8)
        for _ in range(200):
            custom = chance_custom(rng, longest=3, most=4)
            self.assertEqual(parse_custom(str(custom)), custom)
            self.assertEqual(str(parse_custom(str(custom))), str(custom))

    def test_no_string(self):
        for thing in ODD_THINGS + ([plain()], plain().encode()):
            if not isinstance(thing, str):
                self.refused(BadText, (0, "text"), parse_custom, thing)

    def test_heads(self):
        for place, head in ((0, "custom"), (1, "sons"), (5, "daughters")):
            self.assertEqual(ROWS[place], head)
            for wrong in ("", head + " ", " " + head, head.title(), "free", "take f", head + "x"):
                self.refused(BadText, (place + 1, "head"), parse_custom, text(ROWS[:place] + [wrong] + ROWS[place + 1:]))
            self.refused(BadText, (place + 1, "head"), parse_custom, text(ROWS[:place]) if place else "")
        self.refused(BadText, (1, "head"), parse_custom, "x\ny")

    def test_rows_that_are_no_clause(self):
        wrong = [
            "", " ", "free ", " free", "Free", "free not", "free not ", "free not x", "free not f,m", "free not f,  m",
            "free not f, ", "free not , f", "free  not f", "free not  f", "free not f m", "free not f, f, f, f, f",
            "free not unborne", "free if number 1", "free f", "freenot f", "free not f if number 1", "free not living ",
            "take", "take ", "take x", "take f ", " take f", "take  f", "take f m", "take f, m", "take living", "take ffff",
            "take f.2", "take f if", "take f if ", "take f if x", "take f  if number 1", "take f if  number 1",
            "take f if number", "take f if number ", "take f if number 0", "take f if number 5", "take f if number 01",
            "take f if number 10", "take f if number -1", "take f if number \u0661", "take f if number 1 2", "take f if number 1,",
            "take f if number 1, ", "take f if number 1,never", "take f if number 1,  never", "take f if number  1",
            "take f if alive", "take f if alive ", "take f if alive x", "take f if alive f.0", "take f if alive ffff",
            "take f if alive f m", "take f if dead", "take f if dead f.0", "take f if dead  f", "take f if unborne f",
            "take f if never f", "take f if never ", "take f if unlike f", "take f if unlike f m ff", "take f if unlike f x",
            "take f if unlike x f", "take f if unlike f, m", "take f if unlike f  m", "take f if free", "take f if take f",
            "take f if number 1 if number 2", "take f if never, never, never, never, never", "take f not m", "take not f",
            "take f\r", "take f if number one", "sons", "custom", "dead f", "number 1", "taken f", "takef",
            "f", "m", "ff if number 1", "living", "not f", "f, m", "take f if Unborne", "take f if living f", "take f if unalike f m",
        ]
        for row in wrong:
            self.refused(BadText, (3, "clause"), parse_custom, plain([row, "free"]))
            self.refused(BadText, (4, "clause"), parse_custom, plain(["take f", row]))
            self.refused(BadText, (5, "clause"), parse_custom, plain(["free"], [row, "free"]))

    def test_every_condition_is_read(self):
        words = {"number 1": Number(1), "number 4": Number(4), "alive ff": Alive("ff"), "dead mfm": Dead("mfm"),
                 "unborne": Unborne(), "never": Never(), "unlike f m.0": Unlike("f", "m.0")}
        for word, condition in words.items():
            custom = parse_custom(plain([f"take mm if {word}", "free"], ["free"], "house f 0", "sons wed own", "daughters wed own"))
            self.assertEqual(custom.sons[0], Take("mm", condition))
        every = parse_custom(plain(["take f if never, never, never, never", "free not f, f, f, f"]))
        self.assertEqual((len(every.sons[0].conditions), len(every.sons[1].bars)), (4, 4))

    def test_a_fifth_take(self):
        takes = ["take f"] * 5
        self.refused(BadText, (7, "clause"), parse_custom, plain(takes + ["free"]))
        self.refused(BadText, (9, "clause"), parse_custom, plain(["free"], takes + ["free"]))
        self.assertEqual(len(parse_custom(plain(takes[:4] + ["free"], takes[:4] + ["free"])).daughters), 5)

    def test_rows_that_lack(self):
        self.refused(BadText, (1, "head"), parse_custom, "")
        words = ["head", "clause", "clause", "clause", "head", "clause", "clause"]
        for many, word in enumerate(words, 1):
            self.refused(BadText, (many + 1, word), parse_custom, text(ROWS[:many]))
        self.refused(BadText, (10, "wedding"), parse_custom, text(ROWS[:9]))
        self.refused(BadText, (11, "wedding"), parse_custom, text(ROWS[:10]))

    def test_a_row_behind_the_first_free_is_no_clause(self):
        self.refused(BadText, (4, "head"), parse_custom, plain(["free", "free"]))
        self.refused(BadText, (6, "house"), parse_custom, plain(["free"], ["free", "free"]))

    def test_house_rows(self):
        weds = ("sons wed own", "daughters wed own")
        for row in ("", " ", "house", "house ", "house x", "house f", "house f 1", "house f 0 ", "house  f 0", "house f  0",
                    "house f 0,", "house f 0, ", "house f 0,m 0", "house f 0, f 0, f 0", "house given", "house given 0",
                    "house given s", "house f f", "house f 00", "house f -1", "house f 0, f 2", "house x 0", "House f 0",
                    "house f.0", "house given f m", "house own", "f 0", "given m", "m 0, f 1", "sons wed own", "house f \u0660", "house f 0, x", "housef 0"):
            self.refused(BadText, (6, "house"), parse_custom, plain(["free"], ["free"], row, *weds))
            self.refused(BadText, (6, "house"), parse_custom, plain(["free"], ["free"], row))
        custom = parse_custom(plain(["free"], ["free"], "house given f", *weds))
        self.assertEqual(custom.house, (("given", "f"),))
        self.assertTrue(all(type(j) is int for _, j in parse_custom(plain(["free"], ["free"], "house m 0", *weds)).house))

    def test_wedding_rows(self):
        for place, head in ((9, "sons wed "), (10, "daughters wed ")):
            for row in ("", head, head.strip(), head + "own", head + "own, own, own", head + "own,own", head + "own,  own",
                        head + "own, 2", head + "own, -1", head + "own, 00", head + "own, ", " " + head + "own, own",
                        head + "own, own ", head + " own, own", head + "own, x", head + "Own, own", head + "0,1", head + ", own",
                        "own, own", "0, 1", head.title() + "own, own", head + "own, \u0660", ROWS[19 - place], "free"):
                self.refused(BadText, (place + 1, "wedding"), parse_custom, text(ROWS[:place] + [row] + ROWS[place + 1:]))
            custom = parse_custom(text(ROWS[:place] + [head + "1, 0"] + ROWS[place + 1:]))
            self.assertEqual((custom.son_weds, custom.daughter_weds)[place - 9], (1, 0))

    def test_rows_behind_the_end(self):
        for more in (["x"], [""], ["free", "free"]):
            self.refused(BadText, (12, "end"), parse_custom, text(ROWS + more))
        self.refused(BadText, (6, "house"), parse_custom, plain() + "\n")

    def test_house_names_beyond_the_width(self):
        for clause in ("take f.0", "take f if unlike f f.0, never", "take f if unlike m m.1"):
            self.refused(BadText, (4, "width"), parse_custom, plain(["take f", clause, "free not m.0"], [clause, "free"]))
            self.refused(BadText, (5, "width"), parse_custom, plain(["free"], [clause, "free"]))
        self.refused(BadText, (3, "width"), parse_custom, plain(["free not living, f.0"]))
        one = ("house f 0", "sons wed own", "daughters wed 0")
        self.refused(BadText, (4, "width"), parse_custom, plain(["take f.0", "free not f.1"], ["free"], *one))
        self.refused(BadText, (9, "end"), parse_custom, plain(["free not f.1"], ["free"], *one, "x"))
        self.refused(BadText, (8, "wedding"), parse_custom, plain(["free not f.1"], ["free"], *one[:2]))
        self.assertEqual(parse_custom(plain(["free not m.0"], ["free"], *one)).width, 1)

    def test_by_chance_spoilt_texts_are_refused_or_read_back(self):
        rng = random.Random(9)
        whole = str(WIDE)
        for _ in range(4000):
            at = rng.randrange(len(whole))
            spoilt = whole[:at] + rng.choice(["", rng.choice("fm01 ,\nse.")]) + whole[at + rng.randrange(2):]
            try:
                custom = parse_custom(spoilt)
            except BadText as error:
                self.assertIn(error.what, ("head", "clause", "house", "wedding", "end", "width"))
                self.assertTrue(1 <= error.row <= len(spoilt.split("\n")) + 1)
            else:
                self.assertEqual(str(custom), spoilt)
