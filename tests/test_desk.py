"""Desks: notices heard and forgotten [10.9]."""

import itertools
import random

from namesakes.clauses import Free, Take, Unborne
from namesakes.customs import Custom
from namesakes.desk import Desk
from namesakes.errors import BadNotice, BadPage
from namesakes.fillings import how_many_fillings, page_fillings
from namesakes.smudges import Page
from tests.checks import Checks
from tests.families import ODD_THINGS, AlwaysEqual
from tests.pages import FREE, chance_page

CUSTOM = Custom([Take("ff"), Free("living")], [Free()])
ROWS = [
    ("comes", "a", "s", None, ()), ("comes", "b", "d", 2, ()), ("weds", "a", "b"), ("born", "a", "b", "s", "c", 3),
    ("comes", "e", "d", 4, ()), ("weds", "c", "e"), ("born", None, None, "s", "g", None), ("born", "c", "e", "d", "h", 7),
]


def put_in(page, notices):
    """The page with these notices, put in plainly."""
    rows, seen = [list(row) for row in page.rows], list(page.seen)
    for notice in notices:
        if notice[0] == "sees":
            seen.append(notice[1:])
            continue
        for row in rows:
            if notice[0] == "parents" and row[0] == "born" and row[4] == notice[1]:
                row[1:3] = notice[2:]
            if notice[0] == "name" and row[0] == "born" and row[4] == notice[1]:
                row[5] = notice[2]
            if notice[0] == "name" and row[0] == "comes" and row[1] == notice[1]:
                row[3] = notice[2]
    return Page(page.custom, rows, seen)


class DeskCase(Checks):
    def setUp(self):
        self.page = Page(CUSTOM, ROWS)
        self.desk = Desk(self.page)

    def stands(self, desk, *notices):
        """The desk has just these notices, and the page with them."""
        page = put_in(desk.start, notices)
        self.assertEqual((desk.notices, desk.page, len(desk), list(desk)), (notices, page, len(notices), list(notices)))
        self.assertIs(type(desk.notices), tuple)
        self.assertTrue(all(type(notice) is tuple for notice in desk.notices))
        return how_many_fillings(page)


class DeskTest(DeskCase):
    def test_a_desk_without_notices(self):
        self.assertIs(self.desk.start, self.page)
        self.assertEqual(self.stands(self.desk), how_many_fillings(self.page))

    def test_each_notice(self):
        notices = (("sees", "g", 2), ("parents", "g", "a", "b"), ("name", "g", 2), ("name", "a", 2))
        many = how_many_fillings(self.page)
        for held in range(1, 5):
            told = self.desk.hear(list(notices[held - 1]))
            self.assertEqual(told, self.stands(self.desk, *notices[:held]))
            self.assertLessEqual(told, many)
            many = told
        self.assertEqual(many, 1)
        self.assertEqual(list(page_fillings(self.desk.page))[0].rows[6], ("born", "a", "b", "s", "g", 2))

    def test_a_notice_can_leave_nothing(self):
        self.assertEqual(self.desk.hear(("sees", "h", 9)), 0)
        self.assertEqual(self.desk.hear(("sees", "g", 9)), 0)
        self.assertEqual(self.desk.forget(("sees", "h", 9)), self.stands(self.desk, ("sees", "g", 9)))

    def test_notices_forgotten_in_any_order(self):
        notices = (("sees", "g", 2), ("parents", "g", "a", "b"), ("name", "g", 2), ("name", "a", 5))
        for order in itertools.permutations(notices):
            desk = Desk(self.page)
            for notice in notices:
                desk.hear(notice)
            left = list(notices)
            for notice in order:
                left.remove(notice)
                self.assertEqual(desk.forget(list(notice)), self.stands(desk, *left))
            self.assertEqual(desk.page, self.page)

    def test_seen_names_stand_behind_those_of_the_start(self):
        desk = Desk(Page(CUSTOM, ROWS, [("h", 7)]))
        desk.hear(("name", "a", 1))
        desk.hear(("sees", "g", 1))
        desk.hear(("sees", "c", 3))
        self.assertEqual(desk.page.seen, (("h", 7), ("g", 1), ("c", 3)))
        desk.forget(("sees", "g", 1))
        desk.hear(("sees", "g", 3))
        self.assertEqual(desk.page.seen, (("h", 7), ("c", 3), ("g", 3)))
        self.assertEqual(desk.notices, (("name", "a", 1), ("sees", "c", 3), ("sees", "g", 3)))

    def test_no_notices(self):
        wrong = ODD_THINGS + (("sees", "g"), ("sees", "g", 1, 2), ("sees", 1, "g"), ("sees", "G", 1), ("sees", "", 1), ("sees", "abcdefg", 1), ("sees", "g", -1),
                              ("sees", "g", True), ("sees", "g", None), ("sees", "g", 10 ** 30 + 1), ("Sees", "g", 1), ("parents", "g", "a"), ("parents", "g", "a", "B"),
                              ("parents", "g", 1, "b"), ("parents", "g", "a", None), ("parents", "g", "a", "b", 1), ("parents", None, "a", "b"), ("name", "g", "a"),
                              ("name", "g"), ("name", "g", 1.0), ("choice", "g", 1), ("given", "a", 1), (["sees"], "g", 1), (("sees",), "g", 1), "sees", AlwaysEqual(),
                              (AlwaysEqual(), "g", 1), ("sees", AlwaysEqual(), 1), ("sees", "g", AlwaysEqual()), {"sees": 1, "g": 2, "x": 3})
        self.desk.hear(("sees", "g", 1))
        for notice in wrong:
            self.refused(BadNotice, ("notice",), self.desk.hear, notice)
            self.refused(BadNotice, ("notice",), self.desk.forget, notice)
        self.stands(self.desk, ("sees", "g", 1))

    def test_labels(self):
        for notice in (("sees", "a", 1), ("sees", "x", 1), ("parents", "a", "a", "b"), ("parents", "c", "a", "b"), ("parents", "x", "a", "b"), ("parents", "h", "x", "y"),
                       ("name", "b", 1), ("name", "c", 1), ("name", "h", 1), ("name", "x", 1), ("name", "e", 4)):
            self.refused(BadNotice, ("label",), self.desk.hear, notice)
        self.assertEqual(self.stands(self.desk), how_many_fillings(self.page))

    def test_what_is_known(self):
        desk = Desk(Page(CUSTOM, ROWS, [("h", 7)]))
        for notice in (("sees", "g", 2), ("parents", "g", "a", "b"), ("name", "g", 2), ("name", "a", 1)):
            desk.hear(notice)
            self.refused(BadNotice, ("known",), desk.hear, notice)
        for notice in (("sees", "g", 3), ("sees", "h", 7), ("sees", "h", 8), ("parents", "g", "c", "e"), ("parents", "g", "x", "y"), ("name", "g", 3), ("name", "a", 3)):
            self.refused(BadNotice, ("known",), desk.hear, notice)
        desk.forget(("parents", "g", "a", "b"))
        desk.hear(("parents", "g", "c", "e"))
        self.stands(desk, ("sees", "g", 2), ("name", "g", 2), ("name", "a", 1), ("parents", "g", "c", "e"))

    def test_many(self):
        rows = ROWS[:3] + [("born", "a", "b", "d", label, 5) for label in "uvwxyz"]
        desk = Desk(Page(CUSTOM, rows, [("u", 5), ("v", 5)]))
        for label in "wxy":
            desk.hear(("sees", label, 5))
        self.refused(BadNotice, ("many",), desk.hear, ("sees", "z", 5))
        self.refused(BadNotice, ("known",), desk.hear, ("sees", "u", 5))
        self.refused(BadNotice, ("label",), desk.hear, ("sees", "a", 5))
        desk.hear(("name", "a", 1))
        desk.forget(("sees", "x", 5))
        desk.hear(("sees", "z", 5))
        self.assertEqual([label for label, _ in desk.page.seen], list("uvwyz"))

    def test_couples(self):
        rows = ROWS[:6] + [("born", None, None, "s", "g", 1), ("dies", "b"), ("born", None, None, "d", "k", 1), ("comes", "l", "d", 9, ()), ("weds", "a", "l")]
        desk = Desk(Page(CUSTOM, rows))
        for notice in (("parents", "k", "a", "b"), ("parents", "k", "a", "l"), ("parents", "g", "a", "l"), ("parents", "g", "b", "a"), ("parents", "g", "c", "b"),
                       ("parents", "g", "x", "y"), ("parents", "g", "g", "b"), ("parents", "k", "g", "e"), ("parents", "g", "a", "a")):
            self.refused(BadNotice, ("couple",), desk.hear, notice)
        self.assertEqual(desk.hear(("parents", "k", "c", "e")), self.stands(desk, ("parents", "k", "c", "e")))
        self.assertEqual(desk.hear(("parents", "g", "a", "b")), 6)
        alone = Desk(Page(FREE, [("born", None, None, "s", "g", 1)]))
        self.refused(BadNotice, ("couple",), alone.hear, ("parents", "g", "a", "b"))
        self.assertEqual(alone.hear(("sees", "g", 1)), 0)

    def test_forgetting_what_was_not_heard(self):
        self.refused(BadNotice, ("notice",), self.desk.forget, ("sees", "g", 1))
        self.desk.hear(("sees", "g", 1))
        for notice in (("sees", "g", 2), ("name", "g", 1), ("sees", "c", 1), ("parents", "g", "a", "b"), ("sees", "g", True)):
            self.refused(BadNotice, ("notice",), self.desk.forget, notice)
        self.desk.forget(["sees", "g", 1])
        self.refused(BadNotice, ("notice",), self.desk.forget, ("sees", "g", 1))


class WideTest(DeskCase):
    def wide_page(self, written):
        """A page with three smudged names and so many written ones."""
        rows = [("comes", "a", "s", None, ()), ("comes", "b", "d", None, ()), ("comes", "c", "d", None, ())]
        rows += [("comes", f"x{chr(97 + n)}", "s", n, ()) for n in range(written - 1)]
        return Page(FREE, rows + [("weds", "a", "b"), ("born", "a", "b", "s", "g", 50), ("born", "a", "b", "s", "h", 50)])

    def test_too_wide_by_a_notice(self):
        # 8 * 9 * 10 = 720 and 9 * 10 * 11 = 990 fillings to go through, and then too many.
        desk = Desk(self.wide_page(7))
        self.assertEqual(desk.hear(("sees", "g", 60)), 0)
        self.refused(BadPage, (0, "wide"), desk.hear, ("sees", "h", 61))
        self.stands(desk, ("sees", "g", 60))
        desk.hear(("sees", "h", 60))
        desk.hear(("name", "a", 70))
        self.stands(desk, ("sees", "g", 60), ("sees", "h", 60), ("name", "a", 70))

    def test_too_wide_by_forgetting_one(self):
        desk = Desk(self.wide_page(7))
        desk.hear(("name", "a", 70))
        desk.hear(("sees", "g", 60))
        desk.hear(("sees", "h", 61))
        before = desk.page
        self.refused(BadPage, (0, "wide"), desk.forget, ("name", "a", 70))
        self.assertIs(desk.page, before)
        self.stands(desk, ("name", "a", 70), ("sees", "g", 60), ("sees", "h", 61))
        desk.forget(("sees", "g", 60))
        desk.forget(("name", "a", 70))
        self.stands(desk, ("sees", "h", 61))

    def test_words_ahead_of_wide(self):
        desk = Desk(self.wide_page(8))
        self.refused(BadNotice, ("label",), desk.hear, ("sees", "a", 80))
        self.refused(BadPage, (0, "wide"), desk.hear, ("sees", "g", 80))
        self.refused(BadNotice, ("notice",), desk.forget, ("sees", "g", 80))


class TrialTest(DeskCase):
    def test_a_trial(self):
        self.desk.hear(("sees", "g", 1))
        with self.desk.trial() as desk:
            self.assertIs(desk, self.desk)
            desk.hear(("name", "a", 1))
            desk.forget(("sees", "g", 1))
            self.stands(desk, ("name", "a", 1))
        self.stands(self.desk, ("sees", "g", 1))

    def test_an_error_goes_on(self):
        with self.assertRaises(ZeroDivisionError):
            with self.desk.trial() as desk:
                desk.hear(("sees", "g", 1))
                1 // 0
        self.stands(self.desk)
        with self.assertRaises(BadNotice):
            with self.desk.trial() as desk:
                desk.hear(("sees", "g", 1))
                desk.hear(("sees", "g", 1))
        self.stands(self.desk)

    def test_trials_within_one_another(self):
        outer = self.desk.trial()
        with outer:
            self.desk.hear(("sees", "g", 1))
            with self.desk.trial():
                self.desk.forget(("sees", "g", 1))
                with outer:
                    self.desk.hear(("name", "g", 5))
                    self.stands(self.desk, ("name", "g", 5))
                self.stands(self.desk)
            self.stands(self.desk, ("sees", "g", 1))
        self.stands(self.desk)
        with outer:
            self.desk.hear(("name", "a", 5))
        self.stands(self.desk)

    def test_tried(self):
        self.desk.hear(("sees", "g", 1))
        self.assertEqual(self.desk.tried(lambda desk: (desk.hear(("name", "a", 1)), len(desk))), (how_many_fillings(put_in(self.page, [("sees", "g", 1), ("name", "a", 1)])), 2))
        self.stands(self.desk, ("sees", "g", 1))
        self.assertIs(self.desk.tried(lambda desk: desk), self.desk)
        with self.assertRaises(KeyError):
            self.desk.tried(lambda desk: (desk.forget(("sees", "g", 1)), {}[1]))
        self.stands(self.desk, ("sees", "g", 1))


class ChanceTest(DeskCase):
    def notices(self, rng, page):
        found = [("sees", child, rng.randrange(6)) for child in page.children()]
        for index, smudge in page.smudges:
            row = page.rows[index]
            label = row[1] if row[0] == "comes" else row[4]
            if smudge == "parents":
                weddings = [told[1:] for told in page.rows if told[0] == "weds"]
                found += [("parents", label, *pair) for pair in weddings]
            else:
                found.append(("name", label, rng.randrange(6)))
        return found

    def test_by_chance(self):
        rng = random.Random(101)
        heard = 0
        for _ in range(60):
            page = chance_page(rng)
            desk = Desk(page)
            left = []
            for _ in range(8):
                notice = rng.choice(self.notices(rng, page))
                try:
                    if left and rng.random() < 0.4:
                        notice = rng.choice(left)
                        self.assertEqual(desk.forget(notice), how_many_fillings(desk.page))
                        left.remove(notice)
                    else:
                        self.assertEqual(desk.hear(notice), how_many_fillings(desk.page))
                        left.append(notice)
                        heard += 1
                except (BadNotice, BadPage):
                    pass
                self.stands(desk, *left)
        self.assertGreater(heard, 100)

    def test_a_notice_of_a_filling_lets_it_stand(self):
        rng = random.Random(102)
        for _ in range(40):
            page = chance_page(rng)
            fillings = list(page_fillings(page))
            if not fillings:
                continue
            record = rng.choice(fillings)
            desk = Desk(page)
            for index, smudge in page.smudges:
                row = record.rows[index]
                if smudge == "parents":
                    told = desk.hear(("parents", row[4], *row[1:3]))
                else:
                    told = desk.hear(("name", row[1], row[3]) if row[0] == "comes" else ("name", row[4], row[5]))
                self.assertGreaterEqual(told, 1)
            self.assertEqual(list(page_fillings(desk.page)), [record])
