"""Fillings of pages [10.4] to [10.7]."""

import itertools
import random

from namesakes.alikes import namesakes_among
from namesakes.clauses import Free, Take
from namesakes.customs import Custom
from namesakes.errors import BadFilling, NoPerson
from namesakes.fillings import Verdict, first_filling, how_many_fillings, led_filling, page_fault, page_fillings, page_parents, page_verdict
from namesakes.moved import rename_record
from namesakes.naming import Naming
from namesakes.records import Record
from namesakes.smudges import Page
from tests.checks import Checks
from tests.families import ODD_THINGS, AlwaysEqual
from tests.pages import chance_page, filling_of, may_be, new_names, records_of

FREE = Custom([Free()], [Free()])
PAIR = [("comes", "a", "s", 1, ()), ("comes", "b", "d", 2, ()), ("weds", "a", "b")]
EXAMPLE = Page(
    Custom([Take("ff"), Free("living")], [Free()]),
    PAIR + [("born", "a", "b", "s", "c", 3), ("comes", "e", "d", 4, ()), ("weds", "c", "e"), ("born", None, None, "s", "g", None)],
    [("g", 1)],
)


def child(label, choice=None, kind="s", parents=("a", "b")):
    return ("born", *parents, kind, label, choice)


def choices(page):
    """What stands at the smudges of each filling."""
    found = []
    for record in page_fillings(page):
        told = []
        for index, smudge in page.smudges:
            row = record.rows[index]
            told.append(row[1:3] if smudge == "parents" else row[3] if smudge == "given" else row[5])
        found.append(tuple(told))
    return found


class FaultTest(Checks):
    def test_each_word_in_order(self):
        page = Page(Custom([Free("f")], [Take("m"), Free()]), PAIR + [child("c"), child("e", 5, "d", (None, None))], [("c", 7), ("e", 2)])
        right = Record(0, PAIR + [child("c", 7), child("e", 5, "d")])
        self.assertIsNone(page_fault(page, right))
        self.assertEqual(page_fault(page, Record(1)), "width")
        self.assertEqual(page_fault(page, right.shorter()), "rows")
        self.assertEqual(page_fault(page, right.after(("dies", "a"))), "rows")
        for row in (child("c", 7, "d"), child("x", 7), ("dies", "a")):
            self.assertEqual(page_fault(page, Record(0, PAIR + [row, ("comes", "z", "s", 1, ())])), "row")
        self.assertEqual(page_fault(page, Record(0, PAIR + [child("c", 1), child("e", 6, "d")])), "row")
        self.assertEqual(page_fault(page, Record(0, PAIR + [child("c", 1), child("e", 5, "d")])), "choice")
        self.assertEqual(page_fault(page, Record(0, PAIR + [child("c", 8), child("e", 5, "d")])), "seen")
        self.assertEqual(page_fault(page.with_seen([("c", 7), ("e", 5)]), right), "seen")
        self.assertEqual(page_fault(page.with_seen([("c", 7)]), right), None)

    def test_rows_of_each_sort(self):
        one = Custom([Free()], [Free()], house=[("f", 0)])
        rows = [("comes", "a", "s", None, (5,)), ("comes", "b", "d", 2, (6,)), ("weds", "a", "b"), ("dies", "b")]
        page = Page(one, rows)
        right = [("comes", "a", "s", 9, (5,))] + rows[1:]
        self.assertIsNone(page_fault(page, Record(1, right)))
        for index, row in ((0, ("comes", "a", "s", 9, (6,))), (1, ("comes", "b", "d", 3, (6,))), (1, ("comes", "b", "d", 2, (5,))), (3, ("dies", "a"))):
            self.assertEqual(page_fault(page, Record(1, right[:index] + [row] + right[index + 1:])), "row")

    def test_by_chance(self):
        rng = random.Random(72)
        for _ in range(80):
            page = chance_page(rng)
            names = list(page.written) + new_names(page, 2)
            for record in itertools.islice(records_of(page.with_seen(()), names), 30):
                self.assertEqual(page_fault(page, record) is None, may_be(page, record))
                self.assertIsNone(page_fault(page.with_seen(()), record))


class FillingsTest(Checks):
    def test_nothing_is_smudged(self):
        rows = PAIR + [child("c", 3)]
        self.assertEqual(list(page_fillings(Page(FREE, rows))), [Record(0, rows)])
        self.assertEqual(list(page_fillings(Page(FREE, []))), [Record(0)])
        self.assertEqual(list(page_fillings(Page(FREE, rows, [("c", 4)]))), [])
        self.assertEqual(list(page_fillings(Page(Custom([Free("f")], [Free()]), PAIR + [child("c", 1)]))), [])

    def test_names_in_order(self):
        page = Page(FREE, PAIR + [child("c")])
        self.assertEqual(choices(page), [(1,), (2,), (0,)])
        page = Page(FREE, [("comes", "a", "s", None, ()), ("comes", "b", "d", None, ()), ("comes", "e", "d", None, ())])
        self.assertEqual(choices(page), [(0, 0, 0), (0, 0, 1), (0, 1, 0), (0, 1, 1), (0, 1, 2)])
        page = Page(FREE, [("comes", "a", "s", 1, ()), ("comes", "b", "d", None, ()), ("comes", "e", "d", None, ())])
        self.assertEqual(choices(page), [(1, 1), (1, 0), (0, 1), (0, 0), (0, 2)])
        # What is seen is written, too, behind all rows.
        page = Page(FREE, PAIR + [child("c"), child("e", 0)], [("e", 0)])
        self.assertEqual(choices(page), [(1,), (2,), (0,), (3,)])
        page = Page(FREE, PAIR + [child("c"), child("e")], [("e", 5)])
        self.assertEqual(choices(page), [(1, 5), (2, 5), (5, 5), (0, 5)])

    def test_parents_in_the_order_of_weddings(self):
        rows = PAIR + [("comes", "e", "s", 3, ()), ("comes", "g", "d", 4, ()), ("weds", "e", "g"), ("dies", "a"),
                       ("comes", "h", "s", 5, ()), ("weds", "h", "b"), ("born", None, None, "s", "c", 6), ("weds", "c", "b")]
        page = Page(FREE, rows[:-1])
        self.assertEqual(choices(page), [(("e", "g"),), (("h", "b"),)])
        self.assertEqual(choices(Page(FREE, rows[:6] + rows[9:10])), [(("a", "b"),), (("e", "g"),)])
        self.assertEqual(page_parents(page, "c"), (("e", "g"), ("h", "b")))

    def test_smudged_parents_where_nobody_is_wed(self):
        for rows in ([], PAIR[:2], PAIR + [("dies", "b")]):
            page = Page(FREE, rows + [("born", None, None, "s", "c", None)])
            self.assertEqual((list(page_fillings(page)), how_many_fillings(page), first_filling(page)), ([], 0, None))
            self.assertEqual((page_parents(page, "c"), page_verdict(page, lambda naming: True).word), ((), "none"))

    def test_choices_that_are_not_looked_at(self):
        custom = Custom([Take("f"), Free()], [Take("ff"), Free("living")])
        page = Page(custom, PAIR + [child("c"), child("e"), child("g", None, "d")])
        self.assertEqual(choices(page), [(1, 1, 2), (1, 1, 0)])
        # A written choice that is not looked at stays.
        page = Page(custom, PAIR + [child("c", 2)])
        self.assertEqual([record.rows[3][5] for record in page_fillings(page)], [2])
        # Its parents tell whether it is looked at.
        self.assertEqual(choices(EXAMPLE.with_seen(())), [(("a", "b"), name) for name in (1, 2, 4, 0)] + [(("c", "e"), 1)])
        self.assertEqual(choices(EXAMPLE), [(("a", "b"), 1), (("c", "e"), 1)])

    def test_bars_and_seen_names(self):
        custom = Custom([Free("ever", "f")], [Free()])
        page = Page(custom, PAIR + [child("c"), child("e")])
        self.assertEqual(choices(page), [(2, 0), (0, 2), (0, 3)])
        self.assertEqual(choices(page.with_seen([("c", 2)])), [(2, 0)])
        self.assertEqual(choices(page.with_seen([("e", 2)])), [(0, 2)])
        self.assertEqual(choices(page.with_seen([("c", 9)])), [(9, 2), (9, 0)])
        self.assertEqual(choices(page.with_seen([("c", 9), ("e", 9)])), [])
        self.assertEqual(choices(page.with_seen([("e", 1)])), [])

    def test_many(self):
        rows = [("comes", "x" + letter, "s", number, ()) for number, letter in enumerate("abcdefgh")]
        page = Page(FREE, rows + [("comes", label, "d", None, ()) for label in "abc"])
        # 8 written ones, or each new one in its turn: 9 * 9 * 9 without those that leave a new one out.
        self.assertEqual(how_many_fillings(page), len(choices(page)))
        self.assertEqual(len(choices(page)), 8 ** 3 + 3 * 8 ** 2 + 3 * 8 * 2 + 5)
        self.assertEqual(len(set(choices(page))), len(choices(page)))

    def test_one_after_the_other(self):
        page = Page(FREE, PAIR + [child("c"), child("e")])
        generator = page_fillings(page)
        self.assertIs(iter(generator), generator)
        self.assertEqual(next(generator), Record(0, PAIR + [child("c", 1), child("e", 1)]))
        self.assertEqual(first_filling(page), Record(0, PAIR + [child("c", 1), child("e", 1)]))

    def test_by_chance_all_and_nothing_else(self):
        """FOR EVERY page: the fillings are what all records that may be it are led to, in their order."""
        rng = random.Random(73)
        for _ in range(150):
            page = chance_page(rng)
            names = list(page.written) + new_names(page, 3)
            wanted = list(dict.fromkeys(filling_of(page, record).rows for record in records_of(page, names)))
            found = list(page_fillings(page))
            self.assertEqual([record.rows for record in found], wanted)
            self.assertEqual((how_many_fillings(page), first_filling(page)), (len(found), found[0] if found else None))


class LedTest(Checks):
    def test_one_to_one_changes(self):
        page = Page(FREE, PAIR + [child("c"), child("e"), child("g")])
        for names, led in (((9, 8, 9), (0, 3, 0)), ((2, 9, 3), (2, 0, 3)), ((0, 3, 4), (0, 3, 4)), ((4, 3, 0), (0, 3, 4)), ((1, 1, 1), (1, 1, 1)),
                           ((10 ** 30, 5, 1), (0, 3, 1))):
            record = Record(0, PAIR + [child(label, name) for label, name in zip("ceg", names)])
            wanted = Record(0, PAIR + [child(label, name) for label, name in zip("ceg", led)])
            self.assertEqual(led_filling(page, record), wanted)

    def test_choices_that_are_not_looked_at(self):
        custom = Custom([Take("f"), Free()], [Free()])
        page = Page(custom, [("comes", "a", "s", None, ()), PAIR[1], PAIR[2], child("c"), child("e", None, "d")])
        record = Record(0, [("comes", "a", "s", 7, ()), PAIR[1], PAIR[2], child("c", 5), child("e", 5, "d")])
        self.assertEqual(led_filling(page, record).rows, (("comes", "a", "s", 0, ()), PAIR[1], PAIR[2], child("c", 0), child("e", 1, "d")))
        self.assertIn(led_filling(page, record), list(page_fillings(page)))

    def test_records_that_cannot_be_it(self):
        for record, what in ((Record(1), "width"), (Record(0), "rows"), (Record(0, EXAMPLE.rows[:6] + (("dies", "a"),)), "row"),
                             (Record(0, EXAMPLE.rows[:6] + (child("g", 3),)), "choice"), (Record(0, EXAMPLE.rows[:6] + (child("g", 4),)), "seen")):
            self.refused(BadFilling, (what,), led_filling, EXAMPLE, record)

    def test_by_chance_any_names(self):
        """FOR EVERY page and record that may be it: it is led to a filling, fillings to themselves."""
        rng = random.Random(74)
        led = 0
        for _ in range(120):
            page = chance_page(rng)
            fillings = list(page_fillings(page))
            for filling in fillings[:20]:
                self.assertEqual(led_filling(page, filling), filling)
                new = [name for name in range(20) if name not in page.written]
                pairs = list(zip(new, rng.sample([n for n in range(100, 200)], len(new))))
                record = rename_record(filling, pairs)
                self.assertEqual(led_filling(page, record), filling)
                led += record != filling
            others = new_names(page, 4)[::-1] + [10 ** 30]
            for record in itertools.islice(records_of(page, list(page.written) + others), 60):
                self.assertEqual(led_filling(page, record), filling_of(page, record))
                self.assertIn(led_filling(page, record), fillings)
        self.assertGreater(led, 50)


class AskedTest(Checks):
    def test_the_result(self):
        for result in (Verdict(1, 2, 3), Verdict(other=3, one=2, word=1)):
            self.assertEqual((result.word, result.one, result.other), (1, 2, 3))

    def test_parents(self):
        self.assertEqual(page_parents(EXAMPLE, "g"), (("a", "b"), ("c", "e")))
        self.assertEqual(page_parents(EXAMPLE, "c"), (("a", "b"),))
        self.assertEqual(page_parents(EXAMPLE.with_seen([("g", 3)]), "g"), ())
        self.assertEqual(page_parents(EXAMPLE.with_seen([("g", 3)]), "c"), ())
        self.assertEqual(page_parents(EXAMPLE.with_seen([("g", 2)]), "g"), (("a", "b"),))
        for thing in ODD_THINGS + ("a", "e", "x", AlwaysEqual()):
            self.refused(NoPerson, (thing,), page_parents, EXAMPLE, thing)

    def test_verdicts(self):
        page = Page(Custom([Free("living")], [Free()]), PAIR + [child("c"), child("e")])
        for question, word in ((lambda naming: not namesakes_among(naming), "surely"), (lambda naming: naming.given_of("c") == naming.given_of("e"), "never"),
                               (lambda naming: naming.given_of("c") == 1, "open"), (lambda naming: naming.given_of("e") == 1, "open")):
            told = page_verdict(page, question)
            self.assertEqual(told.word, word)
            for record, answer in ((told.one, True), (told.other, False)):
                self.assertEqual(record is None, word == ("never" if answer else "surely"))
                if record is not None:
                    self.assertIsNone(page_fault(page, record))
                    self.assertIs(question(Naming(page.custom, record)), answer)
        told = page_verdict(page.with_seen([("c", 1), ("e", 1)]), lambda naming: 1 // 0)
        self.assertEqual((told.word, told.one, told.other), ("none", None, None))

    def test_it_is_asked_once_for_each_filling_until_both_are_found(self):
        page = Page(FREE, PAIR + [child("c"), child("e")])
        fillings = list(page_fillings(page))
        for many in range(len(fillings) + 1):
            for first in (True, False):
                asked = []

                def question(naming):
                    asked.append(naming.record)
                    return first if len(asked) <= many else not first

                told = page_verdict(page, question)
                self.assertEqual(asked, fillings[:many + 1] if many else fillings)
                if 0 < many < len(fillings):
                    self.assertEqual(told.word, "open")
                else:
                    self.assertEqual(told.word, "surely" if first == (many > 0) else "never")

    def test_an_object_to_call(self):
        class Question:
            def __call__(self, naming):
                return naming.given_of("c") == 2

        self.assertEqual(page_verdict(Page(FREE, PAIR + [child("c", 2)]), Question()).word, "surely")

    def test_by_chance_it_holds_for_all_records(self):
        rng = random.Random(75)
        for _ in range(60):
            page = chance_page(rng)
            labels = [row[1] if row[0] == "comes" else row[4] for row in page.rows if row[0] in ("comes", "born")]
            one, other = rng.choice(labels), rng.choice(labels)
            for question in (lambda naming: naming.given_of(one) == naming.given_of(other), lambda naming: naming.clause_of(one) == 0):
                names = list(page.written) + new_names(page, 3)
                answers = {question(Naming(page.custom, record)) for record in records_of(page, names)}
                word = {(): "none", (True,): "surely", (False,): "never"}.get(tuple(answers), "open")
                self.assertEqual(page_verdict(page, question).word, word)
