"""Seen names that no record gives together [10.8]."""

import itertools
import random

from namesakes.clashes import greatest_lots, least_clashes
from namesakes.clauses import Free, Take
from namesakes.customs import Custom
from namesakes.naming import Naming
from namesakes.smudges import Page
from tests.checks import Checks
from tests.pages import chance_page, new_names, records_of

FREE = Custom([Free()], [Free()])
PAIR = [("comes", "a", "s", 1, ()), ("comes", "b", "d", 2, ()), ("weds", "a", "b")]


def child(label, choice=None, kind="s"):
    return ("born", "a", "b", kind, label, choice)


class ClashesTest(Checks):
    def test_nothing_is_seen(self):
        page = Page(FREE, PAIR + [child("c")])
        self.assertEqual((least_clashes(page), greatest_lots(page)), ((), ((),)))

    def test_all_can_be(self):
        page = Page(FREE, PAIR + [child("c"), child("e")], [("c", 9), ("e", 9)])
        self.assertEqual((least_clashes(page), greatest_lots(page)), ((), ((0, 1),)))

    def test_pairs_that_cannot_be(self):
        custom = Custom([Free("ever")], [Free()])
        rows = PAIR + [child(label) for label in "ceg"]
        page = Page(custom, rows, [("c", 5), ("e", 5), ("g", 1)])
        self.assertEqual((least_clashes(page), greatest_lots(page)), (((0, 1),), ((0, 2), (1, 2))))
        page = Page(custom, rows, [("g", 5), ("c", 5), ("e", 5)])
        self.assertEqual((least_clashes(page), greatest_lots(page)), (((0, 1), (0, 2), (1, 2)), ((0,), (1,), (2,))))

    def test_names_that_cannot_be_alone(self):
        page = Page(FREE, PAIR + [child("c", 3), child("e")], [("c", 4), ("e", 4)])
        self.assertEqual((least_clashes(page), greatest_lots(page)), (((0,),), ((1,),)))
        page = Page(FREE, PAIR + [child("c", 3), child("e", 3), child("g", 3)], [("g", 3), ("c", 4), ("e", 5)])
        self.assertEqual((least_clashes(page), greatest_lots(page)), (((1,), (2,)), ((0,),)))
        page = Page(FREE, PAIR + [child("c", 3)], [("c", 4)])
        self.assertEqual((least_clashes(page), greatest_lots(page)), (((0,),), ((),)))

    def test_three_that_cannot_be_together(self):
        custom = Custom([Take("f"), Free()], [Free()])
        rows = [("comes", "a", "s", 1, ()), ("comes", "b", "d", 2, ()), ("weds", "a", "b"), ("comes", "x", "s", 3, ()), ("comes", "y", "d", 4, ()),
                ("weds", "x", "y"), ("born", None, None, "s", "c", 5), ("born", None, None, "s", "e", 5)]
        page = Page(custom, rows, [("c", 1), ("e", 3)])
        self.assertEqual((least_clashes(page), greatest_lots(page)), ((), ((0, 1),)))
        rows[0] = ("comes", "a", "s", None, ())
        page = Page(custom, rows, [("c", 1), ("e", 7)])
        self.assertEqual((least_clashes(page), greatest_lots(page)), (((0, 1),), ((0,), (1,))))
        more = rows[:6] + [("born", None, None, "s", "c", 5), ("born", "a", "b", "s", "e", 5), ("born", "x", "y", "s", "g", 5)]
        page = Page(custom, more, [("c", 1), ("e", 1), ("g", 1)])
        self.assertEqual((least_clashes(page), greatest_lots(page)), (((2,),), ((0, 1),)))
        barred = Custom([Take("f"), Free()], [Free("living")])
        rows = PAIR + [child("c", None, "d"), child("e", None, "d"), child("g", None, "d")]
        page = Page(barred, rows, [("c", 1), ("e", 2), ("g", 1)])
        self.assertEqual((least_clashes(page), greatest_lots(page)), (((0, 2),), ((0, 1), (1, 2))))

    def test_a_page_that_no_record_may_be(self):
        barred = Custom([Free("f")], [Free()])
        for page in (Page(FREE, [("born", None, None, "s", "c", 1)]), Page(barred, PAIR + [child("c", 1)])):
            for seen in ((), [("c", 1)], [("c", 2)]):
                self.assertEqual((least_clashes(page.with_seen(seen)), greatest_lots(page.with_seen(seen))), (((),), ()))

    def test_five_seen_names(self):
        rows = PAIR + [child(label) for label in "ceg"] + [child("h", 7), child("i", 8)]
        page = Page(FREE, rows, [("c", 7), ("e", 8), ("g", 7), ("h", 7), ("i", 7)])
        self.assertEqual((least_clashes(page), greatest_lots(page)), (((4,),), ((0, 1, 2, 3),)))

    def test_by_chance_each_lot(self):
        """FOR EVERY page: a lot is given exactly if it holds no least clash, and exactly if it lies within a greatest lot."""
        rng = random.Random(76)
        clashing = 0
        for _ in range(150):
            page = chance_page(rng)
            names = list(page.written) + new_names(page, 3)
            full = set()
            for record in records_of(page.with_seen(()), names):
                naming = Naming(page.custom, record)
                full.add(tuple(index for index, (label, name) in enumerate(page.seen) if naming.given_of(label) == name))
            lots = [lot for many in range(len(page.seen) + 1) for lot in itertools.combinations(range(len(page.seen)), many)]
            given = [lot for lot in lots if any(set(lot) <= set(other) for other in full)]
            least = tuple(lot for lot in lots if lot not in given and all(part in given for part in itertools.combinations(lot, len(lot) - 1) if lot))
            greatest = tuple(lot for lot in given if not any(set(lot) < set(other) for other in given))
            self.assertEqual((least_clashes(page), greatest_lots(page)), (least, greatest))
            clashing += len(least) > 0
        self.assertGreater(clashing, 10)
