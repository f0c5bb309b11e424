"""Pages [10.1] to [10.3]."""

import random

from namesakes.clauses import Free, Take
from namesakes.customs import Custom
from namesakes.errors import BadPage, BadSeen
from namesakes.records import record_fault
from namesakes.smudges import MOST_FILLINGS, MOST_PAGE_ROWS, MOST_SEEN, MOST_SMUDGES, Page
from tests.checks import Checks
from tests.families import ODD_THINGS, AlwaysEqual, chance_custom, chance_record, label_at

FREE = Custom([Free()], [Free()])
ONE = Custom([Free()], [Free()], house=[("f", 0)])
PAIR = [("comes", "a", "s", 1, ()), ("comes", "b", "d", 2, ()), ("weds", "a", "b")]
CHILD = ("born", "a", "b", "s", "c", 3)


def founders(many):
    return [("comes", "x" + label_at(number), "s", number, ()) for number in range(many)]


class PageTest(Checks):
    def test_constants(self):
        self.assertEqual((MOST_PAGE_ROWS, MOST_SMUDGES, MOST_SEEN, MOST_FILLINGS), (60, 3, 5, 1000))

    def test_attributes(self):
        rows = [["comes", "a", "s", None, [7, 8]], ("comes", "b", "d", 2, (8, 2)), ["weds", "a", "b"],
                ["born", None, None, "s", "c", None], ("born", "a", "b", "d", "e", 8), ("dies", "a")]
        custom = Custom([Free()], [Free()], house=[("f", 0), ("m", 1)])
        page = Page(custom, rows, [["e", 9], ("c", 7)])
        self.assertIs(page.custom, custom)
        self.assertEqual(page.rows, (("comes", "a", "s", None, (7, 8)), ("comes", "b", "d", 2, (8, 2)), ("weds", "a", "b"),
                                     ("born", None, None, "s", "c", None), ("born", "a", "b", "d", "e", 8), ("dies", "a")))
        self.assertEqual(page.seen, (("e", 9), ("c", 7)))
        self.assertEqual(page.smudges, ((0, "given"), (3, "parents"), (3, "choice")))
        # Names stand once, by rows, the given one ahead of the house names; seen ones behind them.
        self.assertEqual(page.written, (7, 8, 2, 9))
        self.assertEqual((page.children(), len(page), tuple(page)), (("c", "e"), 6, page.rows))
        self.assertEqual(Page(FREE, ()).rows, ())
        self.assertEqual((Page(FREE, ()).seen, Page(FREE, ()).written, Page(FREE, ()).smudges, Page(FREE, ()).children()), ((),) * 4)
        self.assertEqual(Page(FREE, [PAIR[1], PAIR[0], PAIR[2], CHILD]).written, (2, 1, 3))

    def test_the_rows(self):
        for rows in (None, True, 5, "ab", {0: 1}, {0}, iter([]), AlwaysEqual()):
            self.refused(BadPage, (0, "rows"), Page, FREE, rows, None)
        self.refused(BadPage, (60, "many"), Page, FREE, [None] * 61, None)
        self.assertEqual(len(Page(FREE, founders(60))), 60)
        self.refused(BadPage, (60, "many"), Page, FREE, founders(61))

    def test_wrong_forms(self):
        wrong = ODD_THINGS + (
            (), ("comes",), ("comes", "x", "s", None), ("comes", "x", "s", None, (), 1), ("comes", None, "s", 1, ()),
            ("comes", "x", None, 1, ()), ("comes", "x", "s", 1, None), ("comes", "x", "s", None, None), ("comes", "x", "s", None, (None,)),
            ("comes", "x", "s", True, ()), ("comes", "x", "s", -1, ()), ("comes", "X", "s", None, ()), (None, "x", "s", 1, ()),
            ("weds", None, "b"), ("weds", "a", None), ("weds", None, None), ("born", None, "b", "s", "x", 1), ("born", "a", None, "s", "x", 1),
            ("born", "a", None, "s", "x", None), ("born", None, None, None, "x", 1), ("born", None, None, "s", None, 1),
            ("born", None, None, "s", "x", True), ("born", None, None, "s", "x"), ("born", None, None, "x", "x", None),
            ("born", True, True, "s", "x", 1), ("born", "a", "b", "s", "x", "1"), ("born", None, False, "s", "x", 1), ("dies", None),
            ("dies",), ("dies", "a", None), ("Comes", "x", "s", 1, ()), "comes", {"dies": 1, "a": 2}, (AlwaysEqual(), "a"),
            ("born", "a", "b", "s", "x", AlwaysEqual()), ("comes", "x", "s", AlwaysEqual(), ()), ("born", AlwaysEqual(), None, "s", "x", 1),
        )
        for row in wrong:
            self.refused(BadPage, (3, "row"), Page, FREE, PAIR + [row, None], None)

    def test_words_of_rows(self):
        smudged = [("comes", "e", "s", None, ()), ("born", None, None, "d", "g", None)]
        for row, what in (
            (("comes", "a", "s", None, ()), "label"), (("comes", "g", "s", 1, (1,)), "label"), (("comes", "x", "s", None, (1,)), "width"),
            (("weds", "a", "x"), "person"), (("weds", "g", "a"), "kind"), (("weds", "e", "b"), "wed"), (("born", "a", "x", "s", "x", None), "person"),
            (("born", "a", "g", "s", "x", None), "couple"), (("born", "a", "b", "s", "g", None), "label"), (("born", "b", "a", "s", "g", 1), "couple"),
            (("born", None, None, "s", "g", None), "label"), (("born", None, None, "s", "a", 5), "label"), (("dies", "x"), "person"),
        ):
            self.refused(BadPage, (5, what), Page, FREE, PAIR + smudged + [row, None], None)
        dead = PAIR + [("dies", "a")]
        for row, what in ((("dies", "a"), "dead"), (("born", "a", "b", "s", "x", None), "couple"), (("weds", "a", "b"), "dead")):
            self.refused(BadPage, (4, what), Page, FREE, dead + [row])
        self.refused(BadPage, (0, "width"), Page, ONE, [("comes", "x", "s", None, ())])
        # A child of smudged parents can wed and have children.
        rows = PAIR + [("born", None, None, "d", "g", 4), ("comes", "e", "s", 5, ()), ("weds", "e", "g"), ("born", "e", "g", "s", "h", 1)]
        self.assertEqual(Page(FREE, rows).children(), ("g", "h"))

    def test_smudges(self):
        one, two, three = ("comes", "x", "s", None, ()), ("born", None, None, "s", "y", None), ("born", "a", "b", "d", "z", None)
        self.assertEqual(len(Page(FREE, PAIR + [one, two]).smudges), 3)
        self.assertEqual(len(Page(FREE, PAIR + [two, three]).smudges), 3)
        self.refused(BadPage, (5, "smudges"), Page, FREE, PAIR + [one, two, three, None], None)
        self.refused(BadPage, (5, "smudges"), Page, FREE, PAIR + [one, three, two, None])
        self.refused(BadPage, (4, "smudges"), Page, FREE, PAIR + [two, ("born", None, None, "s", "x", None)])
        # The words of the row go ahead.
        self.refused(BadPage, (5, "label"), Page, FREE, PAIR + [one, two, ("born", "a", "b", "d", "x", None)])
        self.refused(BadPage, (3, "smudges"), Page, FREE, [("comes", label, "s", None, ()) for label in "abcdd"[:4]])

    def test_seen(self):
        rows = PAIR + [("born", "a", "b", "s", label, 3) for label in "cdefgh"]
        for seen in (None, True, 5, "ab", {0: 1}, {0}, iter([]), AlwaysEqual(), [None] * 6):
            self.refused(BadSeen, (0, "seen"), Page, FREE, rows, seen)
        for pair in ODD_THINGS + ((), ("c",), ("c", 1, 2), ("c", True), ("c", None), ("c", -1), ("c", 10 ** 30 + 1), ("C", 1), (None, 1), (1, "c"),
                                  {"c": 1, "d": 2}, "cd", AlwaysEqual(), ("c", AlwaysEqual()), (AlwaysEqual(), 1)):
            self.refused(BadSeen, (1, "pair"), Page, FREE, rows, [("d", 1), pair, None])
        for label in ("a", "b", "x", "zz"):
            self.refused(BadSeen, (1, "label"), Page, FREE, rows, (("d", 1), [label, 1], None))
        for pair in (("c", 1), ["c", 2]):
            self.refused(BadSeen, (2, "double"), Page, FREE, rows, (("c", 1), ("d", 1), pair, None))
        page = Page(FREE, rows, [(label, 10 ** 30) for label in "cdefg"])
        self.assertEqual(len(page.seen), 5)
        self.refused(BadSeen, (0, "seen"), Page, FREE, rows, [(label, 1) for label in "cdefgh"])

    def test_seen_goes_behind_the_rows_and_ahead_of_wide(self):
        wide = founders(20) + [("comes", label, "d", None, ()) for label in "abc"]
        self.refused(BadPage, (0, "wide"), Page, FREE, wide)
        self.refused(BadSeen, (0, "seen"), Page, FREE, wide, None)
        self.refused(BadPage, (23, "row"), Page, FREE, wide + [None], None)

    def test_products(self):
        # With w written names three smudged names have (w + 1) * (w + 2) * (w + 3) fillings at most.
        for written, wide in ((8, False), (9, True)):
            rows = founders(written) + [("comes", label, "d", None, ()) for label in "abc"]
            if wide:
                self.refused(BadPage, (0, "wide"), Page, FREE, rows)
            else:
                self.assertEqual(len(Page(FREE, rows).smudges), 3)
        # 990 with 8 names; a seen name more is a written one more, a written one that is seen is not.
        rows = PAIR + founders(8)[3:] + [("born", "a", "b", "s", label, None) for label in "cde"]
        self.assertEqual(Page(FREE, rows).written, (1, 2, 3, 4, 5, 6, 7))
        self.assertEqual(len(Page(FREE, rows, [("c", 8)]).written), 8)
        self.refused(BadPage, (0, "wide"), Page, FREE, rows, [("c", 8), ("d", 9)])
        self.assertEqual(len(Page(FREE, rows, [("c", 8), ("d", 7)]).written), 8)
        page = Page(FREE, rows)
        self.refused(BadPage, (0, "wide"), page.with_seen, [("c", 8), ("d", 9)])

    def couples(self, many):
        rows = []
        for number in range(many):
            rows += [("comes", "s" + label_at(number), "s", 1, ()), ("comes", "d" + label_at(number), "d", 1, ()),
                     ("weds", "s" + label_at(number), "d" + label_at(number))]
        return rows

    def test_products_with_parents(self):
        births = [("born", None, None, "s", label, 1) for label in "xyz"]
        self.assertEqual(len(Page(FREE, self.couples(10) + births)), 33)
        self.refused(BadPage, (0, "wide"), Page, FREE, self.couples(11) + births)
        # 10 couples at the first, 9 when one has died.
        rows = self.couples(11) + [births[0], ("dies", "saa"), ("dies", "sab")] + births[1:]
        self.assertEqual(len(Page(FREE, rows).smudges), 3)
        # 19 * 2 * 19 ways with one written name, and 19 * 3 * 19 with two.
        rows = self.couples(19) + [("born", None, None, "s", "x", None), ("born", None, None, "s", "y", 1)]
        self.assertEqual(len(Page(FREE, rows).smudges), 3)
        self.refused(BadPage, (0, "wide"), Page, FREE, rows[:-2] + [("born", None, None, "s", "x", None), ("born", None, None, "s", "y", 2)])

    def test_smudged_parents_where_nobody_is_wed(self):
        for rows in ([], PAIR[:2], PAIR + [("dies", "b")]):
            page = Page(FREE, rows + [("born", None, None, "s", "x", None)])
            self.assertEqual(page.children(), ("x",))
        # Nothing is too wide then.
        rows = founders(40) + [("comes", "a", "d", None, ()), ("born", None, None, "s", "x", None)]
        self.assertEqual(len(Page(FREE, rows).smudges), 3)

    def test_with_seen(self):
        page = Page(FREE, PAIR + [CHILD], [("c", 4)])
        other = page.with_seen([["c", 5]])
        self.assertEqual((other.seen, other.written, other.rows, page.seen), ((("c", 5),), (1, 2, 3, 5), page.rows, (("c", 4),)))
        self.refused(BadSeen, (0, "label"), page.with_seen, [("a", 1)])
        self.assertEqual(page.with_seen(()), Page(FREE, PAIR + [CHILD]))

    def test_equality(self):
        page = Page(FREE, PAIR + [CHILD], [("c", 4)])
        self.assertEqual(page, Page(Custom([Free()], [Free()]), tuple([list(row) for row in PAIR + [CHILD]]), (["c", 4],)))
        self.unlike_all(page, Page(FREE, PAIR + [CHILD]), Page(FREE, PAIR + [CHILD[:5] + (None,)], [("c", 4)]), None, page.rows,
                        Page(Custom([Free()], [Free("f")]), PAIR + [CHILD], [("c", 4)]), Page(FREE, PAIR + [CHILD], [("c", 3)]))
        two = PAIR + [CHILD, ("born", "a", "b", "s", "e", 1)]
        self.unlike_all(Page(FREE, two, [("c", 4), ("e", 5)]), Page(FREE, two, [("e", 5), ("c", 4)]))

    def test_nothing_is_kept(self):
        house, pair = [5], ["c", 6]
        rows, seen = [["comes", "a", "s", None, house], ("comes", "b", "d", 2, (2,)), ["weds", "a", "b"], ["born", None, None, "s", "c", 3]], [pair]
        page = Page(ONE, rows, seen)
        before = (page.rows, page.seen)
        house[0], pair[1], rows[3][5] = 7, 8, 9
        rows.pop()
        seen.clear()
        self.assertEqual((page.rows, page.seen), before)

    def test_choices_that_are_not_looked_at_are_let(self):
        page = Page(Custom([Take("f"), Free()], [Free()]), PAIR + [CHILD[:5] + (None,)])
        self.assertEqual(page.smudges, ((3, "choice"),))

    def test_rows_without_smudges_have_the_words_of_a_record(self):
        rng = random.Random(71)
        for _ in range(200):
            custom = chance_custom(rng)
            rows = list(chance_record(rng, custom, 8))
            at = rng.randrange(len(rows))
            rows.insert(at, rng.choice(rows))
            if rng.random() < 0.5:
                rows.pop(rng.randrange(len(rows)))
            fault = record_fault(custom.width, rows)
            if fault is None:
                self.assertEqual(Page(custom, rows).rows, tuple(rows))
            else:
                self.refused(BadPage, fault, Page, custom, rows)
