"""Changes of a custom [10.10], [10.11]."""

import random

from namesakes.changes import changed_custom
from namesakes.clauses import Alive, Dead, Free, Never, Number, Take, Unborne, Unlike
from namesakes.customs import Custom
from namesakes.errors import BadChange
from tests.checks import Checks
from tests.families import ODD_THINGS, AlwaysEqual, chance_custom

FREE = [Free()]
TAKES = [Take("f"), Take("ff"), Take("m"), Take("mm")]
CUSTOM = Custom(TAKES + [Free("f", "living")], [Take("m", Number(1), Unborne()), Take("f"), Free()])
FORMS = (("bar", "s", "ff"), ("unborne", "s", 0), ("number", "s", 0, 1), ("number", "d", 0, None), ("drop", "s", 0), ("swap", "s", 0))


def sons(custom, *changes):
    return [str(clause) for clause in changed_custom(custom, changes).sons]


def changed_plainly(custom, changes):
    """The texts of both kinds' clauses, worked out on texts."""
    found = {}
    for kind in "sd":
        clauses = custom.clauses(kind)
        rows = [[index, clause.source, [str(condition) for condition in clause.conditions]]
                for index, clause in enumerate(clauses[:-1])]
        bars = list(clauses[-1].bars)
        for change in changes:
            if change[1] == kind:
                rows, bars = one_change(rows, bars, change)
        takes = [f"take {source}" + (" if " + ", ".join(conditions) if conditions else "") for _, source, conditions in rows]
        found[kind] = takes + ["free" + (" not " + ", ".join(bars) if bars else "")]
    return found


def one_change(rows, bars, change):
    if change[0] == "bar":
        return rows, bars if change[2] in bars else bars + [change[2]]
    places = [row[0] for row in rows]
    if change[2] not in places:
        return rows, bars
    at = places.index(change[2])
    if change[0] == "drop":
        return rows[:at] + rows[at + 1:], bars
    index, source, conditions = rows[at]
    if change[0] == "unborne" and "unborne" not in conditions:
        rows[at] = [index, source, conditions + ["unborne"]]
    if change[0] == "number":
        kept = [condition for condition in conditions if not condition.startswith("number")]
        rows[at] = [index, source, ([] if change[3] is None else [f"number {change[3]}"]) + kept]
    if change[0] == "swap" and change[2] + 1 in places:
        other = places.index(change[2] + 1)
        rows[at], rows[other] = rows[other], rows[at]
    return rows, bars


class ChangesTest(Checks):
    def test_each_form(self):
        self.assertEqual(sons(CUSTOM), ["take f", "take ff", "take m", "take mm", "free not f, living"])
        self.assertEqual(sons(CUSTOM, ("bar", "s", "ff"))[-1], "free not f, living, ff")
        self.assertEqual(sons(CUSTOM, ("bar", "s", "ever"))[-1], "free not f, living, ever")
        for bar in ("f", "living"):
            self.assertEqual(sons(CUSTOM, ("bar", "s", bar))[-1], "free not f, living")
        self.assertEqual(sons(CUSTOM, ("unborne", "s", 1))[1], "take ff if unborne")
        self.assertEqual(sons(CUSTOM, ("unborne", "s", 1), ("unborne", "s", 1))[1], "take ff if unborne")
        for n in (1, 2, 3, 4):
            self.assertEqual(sons(CUSTOM, ("number", "s", 3, n))[3], f"take mm if number {n}")
        self.assertEqual(sons(CUSTOM, ("number", "s", 3, None))[3], "take mm")
        self.assertEqual(sons(CUSTOM, ("drop", "s", 2)), ["take f", "take ff", "take mm", "free not f, living"])
        self.assertEqual(sons(CUSTOM, ("swap", "s", 1)), ["take f", "take m", "take ff", "take mm", "free not f, living"])
        # The other kind stays.
        for change in FORMS:
            other = "d" if change[1] == "s" else "s"
            self.assertEqual(changed_custom(CUSTOM, [change]).clauses(other), CUSTOM.clauses(other))

    def test_conditions_stay_in_their_order(self):
        custom = Custom([Take("f", Dead("ff"), Number(2), Unlike("f", "m"), Number(3)), Free()],
                        [Take("m", Never(), Unborne(), Alive("mm")), Free()])
        self.assertEqual(sons(custom, ("number", "s", 0, 1))[0], "take f if number 1, dead ff, unlike f m")
        self.assertEqual(sons(custom, ("number", "s", 0, None))[0], "take f if dead ff, unlike f m")
        self.assertEqual(sons(custom, ("number", "s", 0, None), ("unborne", "s", 0))[0], "take f if dead ff, unlike f m, unborne")
        daughters = changed_custom(custom, (("unborne", "d", 0), ("number", "d", 0, 4))).daughters
        self.assertEqual(str(daughters[0]), "take m if number 4, never, unborne, alive mm")

    def test_clauses_keep_their_indices(self):
        self.assertEqual(sons(CUSTOM, ("swap", "s", 0), ("swap", "s", 0))[:4], ["take f", "take ff", "take m", "take mm"])
        self.assertEqual(sons(CUSTOM, ("swap", "s", 0), ("unborne", "s", 0))[:2], ["take ff", "take f if unborne"])
        # The Take with the next index is not always the next one.
        self.assertEqual(sons(CUSTOM, ("swap", "s", 0), ("swap", "s", 1))[:4], ["take m", "take f", "take ff", "take mm"])
        self.assertEqual(sons(CUSTOM, ("swap", "s", 0), ("swap", "s", 2))[:4], ["take ff", "take f", "take mm", "take m"])
        self.assertEqual(sons(CUSTOM, ("drop", "s", 0), ("swap", "s", 1))[:3], ["take m", "take ff", "take mm"])
        self.assertEqual(sons(CUSTOM, ("drop", "s", 0), ("drop", "s", 1))[:2], ["take m", "take mm"])
        self.assertEqual(sons(CUSTOM, *[("drop", "s", index) for index in range(4)]), ["free not f, living"])

    def test_changes_of_what_was_dropped_do_nothing(self):
        for change in (("unborne", "s", 1), ("number", "s", 1, 2), ("number", "s", 1, None), ("drop", "s", 1), ("swap", "s", 1), ("swap", "s", 0)):
            self.assertEqual(sons(CUSTOM, ("drop", "s", 1), change), ["take f", "take m", "take mm", "free not f, living"])
        full = Custom([Take("f", Never(), Never(), Never(), Never()), Free()], FREE)
        for change in (("unborne", "s", 0), ("number", "s", 0, 1)):
            self.assertEqual(sons(full, ("drop", "s", 0), change), ["free"])

    def test_house_rules_stay(self):
        rules = {"house": [("f", 1), ("given", "m")], "son_weds": ["own", 0], "daughter_weds": [1, "own"]}
        custom = Custom([Take("f.1"), Free()], FREE, **rules)
        changed = changed_custom(custom, [("drop", "s", 0), ("bar", "d", "m.1")])
        self.assertEqual(changed, Custom(FREE, [Free("m.1")], **rules))
        self.assertEqual(changed_custom(custom, ()), custom)

    def test_lists_in_the_place_of_tuples(self):
        for change in FORMS:
            self.assertEqual(changed_custom(CUSTOM, [list(change)]), changed_custom(CUSTOM, (change,)))
        changes = [["drop", "s", 0]]
        changed_custom(CUSTOM, changes)
        self.assertEqual(changes, [["drop", "s", 0]])

    def test_the_sequence(self):
        for changes in ODD_THINGS + ({0: 1}, {0}, iter([]), "drop", AlwaysEqual(), (FORMS[0],) * 9, [None] * 9):
            if changes not in ((), [], [0], (0,)):
                self.refused(BadChange, (0, "changes"), changed_custom, CUSTOM, changes)
        self.assertEqual(sons(CUSTOM, *[("drop", "s", 0)] * 8)[0], "take ff")

    def test_wrong_forms(self):
        wrong = ODD_THINGS + ("drop", AlwaysEqual(), ("bar",), ("bar", "s"), ("bar", "s", "f", 1), ("unborne", "s"), ("unborne", "s", 0, 1),
                              ("number", "s", 0), ("number", "s", 0, 1, 1), ("drop", "s"), ("drop", "s", 0, 0), ("swap", "s", 0, 1),
                              ("swap", "s"), ("Bar", "s", "f"), ("ever", "s", 0), (True, "s", 0), (AlwaysEqual(), "s", 0), ([], "s", 0),
                              ("drop", "f", 0), ("drop", "sd", 0), ("drop", None, 0), ("drop", True, 0), ("drop", AlwaysEqual(), 0),
                              ("number", ["s"], 0, 1), ("bar", "x", "f"), {"drop": 1, "s": 2, 0: 3})
        for thing in wrong:
            self.refused(BadChange, (0, "change"), changed_custom, CUSTOM, [thing, None])
            self.refused(BadChange, (2, "change"), changed_custom, CUSTOM, (FORMS[0], FORMS[4], thing, ("drop", "s", 9)))

    def test_wrong_clauses(self):
        for word in ("unborne", "number", "drop", "swap"):
            for clause in (True, False, None, "0", 0.0, -1, 4, 5, (), [0], AlwaysEqual()):
                change = (word, "s", clause) if word != "number" else (word, "s", clause, 9)
                self.refused(BadChange, (1, "clause"), changed_custom, CUSTOM, (FORMS[0], change, None))
            change = (word, "d", 2) if word != "number" else (word, "d", 2, 1)
            self.refused(BadChange, (0, "clause"), changed_custom, CUSTOM, (change,))
            change = (word, "d", 0) if word != "number" else (word, "d", 0, 1)
            self.refused(BadChange, (0, "clause"), changed_custom, Custom(TAKES + FREE, FREE), (change,))

    def test_wrong_swaps_numbers_and_bars(self):
        self.refused(BadChange, (1, "next"), changed_custom, CUSTOM, (FORMS[5], ("swap", "s", 3), None))
        self.refused(BadChange, (0, "next"), changed_custom, CUSTOM, (("swap", "d", 1),))
        for n in (True, False, 0, 5, -1, "1", 1.0, (), [], AlwaysEqual()):
            self.refused(BadChange, (1, "number"), changed_custom, CUSTOM, (FORMS[5], ("number", "s", 3, n), None))
        one = Custom(FREE, FREE, house=[("f", 0)])
        for bar in ODD_THINGS + ("fmfm", "Living", "dead", "f.2", "x.0", AlwaysEqual(), 0):
            for custom in (CUSTOM, one):
                self.refused(BadChange, (1, "bar"), changed_custom, custom, (("bar", "s", "f"), ("bar", "d", bar), None))
        for bar, width in (("f.0", 1), ("m.0", 1), ("f.1", 2), ("m.1", 2)):
            for many in range(3):
                custom = Custom(FREE, FREE, house=[("f", 0)] * many)
                if many < width:
                    self.refused(BadChange, (0, "bar"), changed_custom, custom, [("bar", "s", bar)])
                else:
                    self.assertEqual(sons(custom, ("bar", "s", bar)), [f"free not {bar}"])

    def test_a_fault_of_form_goes_ahead_of_too_many(self):
        full = Custom([Take("f", Never(), Never(), Never(), Never()), Free("f", "m", "ff", "mm")], FREE)
        self.refused(BadChange, (1, "clause"), changed_custom, full, [("bar", "s", "fm"), ("drop", "s", 1)])
        self.refused(BadChange, (0, "many"), changed_custom, full, [("bar", "s", "fm"), ("unborne", "s", 0)])

    def test_four_and_five(self):
        full = Custom([Take("f", Never(), Number(1), Never(), Never()), Free("f", "m", "ff", "mm")], [Take("f", *[Unborne()] * 4), Free()])
        self.assertEqual(sons(full, ("bar", "s", "mm"))[-1], "free not f, m, ff, mm")
        self.refused(BadChange, (0, "many"), changed_custom, full, [("bar", "s", "living")])
        self.refused(BadChange, (0, "many"), changed_custom, full, [("unborne", "s", 0)])
        # A Number goes in the place of another one.
        self.assertEqual(sons(full, ("number", "s", 0, 2))[0], "take f if number 2, never, never, never")
        self.assertEqual(sons(full, ("number", "s", 0, None), ("unborne", "s", 0))[0], "take f if never, never, never, unborne")
        self.refused(BadChange, (1, "many"), changed_custom, full, [("unborne", "d", 0), ("number", "d", 0, 3), ("drop", "d", 0)])
        self.refused(BadChange, (1, "many"), changed_custom, full, [("drop", "d", 0), ("unborne", "s", 0), ("drop", "s", 0)])
        three = Custom([Take("f", Never(), Never(), Never()), Free("f", "m", "ff")], FREE)
        self.assertEqual(sons(three, ("unborne", "s", 0))[0], "take f if never, never, never, unborne")
        self.refused(BadChange, (1, "many"), changed_custom, three, [("unborne", "s", 0), ("number", "s", 0, 1)])
        self.assertEqual(sons(three, ("bar", "s", "ever"))[-1], "free not f, m, ff, ever")
        self.refused(BadChange, (1, "many"), changed_custom, three, [("bar", "s", "ever"), ("bar", "s", "living"), ("drop", "s", 0)])

    def test_by_chance_against_texts(self):
        rng = random.Random(53)
        for _ in range(300):
            custom = chance_custom(rng, most=4)
            changes = [self.one_by_chance(rng, custom) for _ in range(rng.randint(0, 8))]
            changes = [change for change in changes if change is not None]
            try:
                changed = changed_custom(custom, changes)
            except BadChange as error:
                self.assertEqual(error.what, "many")
                texts = changed_plainly(custom, changes[:error.index + 1])
                self.assertTrue(any(row.count(",") >= 4 for kind in "sd" for row in texts[kind]))
                changes = changes[:error.index]
                changed = changed_custom(custom, changes)
            texts = changed_plainly(custom, changes)
            self.assertEqual({kind: [str(clause) for clause in changed.clauses(kind)] for kind in "sd"}, texts)

    def one_by_chance(self, rng, custom):
        kind = rng.choice("sd")
        takes = len(custom.clauses(kind)) - 1
        word = rng.choice(["bar", "unborne", "number", "drop", "swap"])
        if word == "bar":
            return (word, kind, rng.choice(["f", "m", "ff", "living", "ever"]))
        if takes < (2 if word == "swap" else 1):
            return None
        clause = rng.randrange(takes - 1 if word == "swap" else takes)
        return (word, kind, clause, rng.choice([None, 1, 2, 3, 4])) if word == "number" else (word, kind, clause)
