"""From whom names came down [3.8], [3.9]."""

import random

from namesakes.clauses import Free, Take, Unborne
from namesakes.customs import Custom
from namesakes.errors import BadChoice, BadWidth, NoPerson, NoPlace, NoRoot
from namesakes.naming import Naming
from namesakes.records import Record
from namesakes.roots import Roots
from tests.checks import Checks
from tests.families import ODD_THINGS, AlwaysEqual, chance_custom, chance_record, line_rows

FREE = [Free()]
PLAIN = Custom(FREE, FREE)
ROWS = [("comes", "a", "s", 1, ()), ("comes", "b", "d", 2, ()), ("weds", "a", "b"),
        ("born", "a", "b", "s", "c", 3), ("comes", "e", "d", 4, ()), ("weds", "c", "e"),
        ("born", "c", "e", "s", "g", 9), ("born", "c", "e", "s", "h", 5)]


def plain_chain(custom, record, label, what):
    """The chain told plainly, from the last holder back."""
    naming = Naming(custom, record)
    rows = record.rows

    def last(label, what, ahead):
        """The index of the last row ahead with which this person got this name."""
        for index in reversed(range(ahead)):
            row = rows[index]
            if row[0] == "comes" and row[1] == label or row[0] == "born" and row[4] == label:
                return index
            if row[0] == "weds" and label in row[1:] and what != "given":
                return index
        raise AssertionError(label)

    index = last(label, what, len(rows))
    chain = []
    while True:
        chain.append((index, label, what))
        row = rows[index]
        if row[0] == "comes":
            return tuple(chain)
        if row[0] == "weds":
            rule = (custom.son_weds if row[1] == label else custom.daughter_weds)[what]
            if rule != "own":
                label, what = row[2] if row[1] == label else row[1], rule
        elif what == "given":
            if naming.is_free(label):
                return tuple(chain)
            source = custom.clauses(row[3])[naming.clause_of(label)].source
            if "." in source:
                label, what = row[1] if source[0] == "f" else row[2], int(source[2])
            else:
                label = record.elder_of(label, source)
        else:
            first, second = custom.house[what]
            letter, what = (second, "given") if first == "given" else (first, second)
            label = row[1] if letter == "f" else row[2]
        index = last(label, what, index)


class RootsTest(Checks):
    def test_the_document(self):
        custom = Custom([Take("ff", Unborne()), Free("living")], [Take("mm"), Free("ever")])
        roots = Roots(custom, Record(0, ROWS))
        self.assertEqual(roots.chain("g"), ((6, "g", "given"), (0, "a", "given")))
        self.assertEqual(roots.roots, (("founder", "a", "given"), ("founder", "b", "given"), ("free", "c", "given"), ("founder", "e", "given"), ("free", "h", "given")))
        self.assertEqual([roots.root(label) for label in "gha"], [("founder", "a", "given"), ("free", "h", "given"), ("founder", "a", "given")])
        self.assertEqual([roots.bearers(root) for root in roots.roots], [("a", "g"), ("b",), ("c",), ("e",), ("h",)])
        self.assertIs(roots.are_unlike, True)
        self.assertEqual({type(roots.roots), type(roots.chain("a")), type(roots.chain("a")[0]), type(roots.bearers(roots.roots[0]))}, {tuple})

    def test_house_names_through_weddings(self):
        custom = Custom([Take("m.1"), Free()], [Take("f.0"), Free()], house=[("given", "m"), ("f", 0)], son_weds=["own", 0], daughter_weds=[1, "own"])
        rows = [("comes", "a", "s", 1, (11, 12)), ("comes", "b", "d", 2, (21, 22)), ("weds", "a", "b"), ("born", "a", "b", "s", "c", 9),
                ("comes", "e", "d", 4, (41, 42)), ("weds", "c", "e"), ("born", "c", "e", "d", "g", 9)]
        record = Record(2, rows)
        roots, naming = Roots(custom, record), Naming(custom, record)
        # A wife takes her husband's second house name as it was ahead of the wedding, he her first one.
        self.assertEqual(naming.house_of("a"), (11, 21))
        self.assertEqual(naming.house_of("b"), (12, 22))
        self.assertEqual(roots.chain("a", 1), ((2, "a", 1), (1, "b", 0)))
        self.assertEqual(roots.chain("b", 0), ((2, "b", 0), (0, "a", 1)))
        self.assertEqual(roots.chain("a", 0), ((2, "a", 0), (0, "a", 0)))
        self.assertEqual(roots.chain("c", 0), ((5, "c", 0), (3, "c", 0), (1, "b", "given")))
        self.assertEqual(roots.chain("c"), ((3, "c", "given"), (2, "b", 1), (1, "b", 1)))
        self.assertEqual(roots.chain("c", 1), ((5, "c", 1), (4, "e", 0)))
        self.assertEqual(roots.chain("g"), ((6, "g", "given"), (5, "c", 0), (3, "c", 0), (1, "b", "given")))
        self.assertEqual(roots.chain("g", 1), ((6, "g", 1), (5, "c", 0), (3, "c", 0), (1, "b", "given")))
        self.assertEqual(roots.roots[:6], (("founder", "a", "given"), ("founder", "a", 0), ("founder", "a", 1), ("founder", "b", "given"), ("founder", "b", 0), ("founder", "b", 1)))
        self.assertEqual(roots.bearers(("founder", "b", 1)), ("c",))
        self.assertEqual(roots.bearers(("founder", "b", "given")), ("b", "g"))
        self.assertEqual(roots.bearers(("founder", "a", 0)), ())

    def test_a_widow_weds_again(self):
        custom = Custom(FREE, FREE, house=[("m", 0)], daughter_weds=[0])
        rows = [("comes", "a", "s", 1, (11,)), ("comes", "b", "d", 2, (21,)), ("weds", "a", "b"), ("dies", "a"), ("comes", "c", "s", 3, (31,)), ("weds", "c", "b"), ("born", "c", "b", "s", "e", 9)]
        roots = Roots(custom, Record(1, rows))
        self.assertEqual(roots.chain("b", 0), ((5, "b", 0), (4, "c", 0)))
        self.assertEqual(roots.chain("e", 0), ((6, "e", 0), (5, "b", 0), (4, "c", 0)))
        self.assertEqual(Roots(custom, Record(1, rows[:5])).chain("b", 0), ((2, "b", 0), (0, "a", 0)))

    def test_like_names_of_unlike_roots(self):
        for rows, told in ((ROWS[:4], True), (ROWS[:3] + [("born", "a", "b", "s", "c", 1)], False), ([("comes", "a", "s", 1, ()), ("comes", "b", "d", 1, ())], False), ([], True)):
            roots = Roots(PLAIN, Record(0, rows))
            self.assertIs(roots.are_unlike, told)
        roots = Roots(PLAIN, Record(0, ROWS[:3] + [("born", "a", "b", "s", "c", 1)]))
        self.assertEqual((roots.bearers(("founder", "a", "given")), roots.bearers(("free", "c", "given"))), (("a",), ("c",)))
        # A given name and a house name that are alike are of two roots, too; the choice of a child who is named by a Take is none.
        housed = Custom([Take("f"), Free()], FREE, house=[("f", 0)])
        self.assertFalse(Roots(housed, Record(1, [("comes", "a", "s", 1, (1,))])).are_unlike)
        rows = [("comes", "a", "s", 1, (5,)), ("comes", "b", "d", 2, (6,)), ("weds", "a", "b"), ("born", "a", "b", "s", "c", 2)]
        self.assertTrue(Roots(housed, Record(1, rows)).are_unlike)

    def test_errors(self):
        self.refused(BadWidth, (1,), Roots, PLAIN, Record(1))
        self.refused(BadChoice, ("c", 1, 0), Roots, Custom([Free("f")], FREE), Record(0, ROWS[:3] + [("born", "a", "b", "s", "c", 1)]))
        custom = Custom(FREE, FREE, house=[("f", 0)])
        roots = Roots(custom, Record(1, [("comes", "a", "s", 1, (5,))]))
        for thing in ODD_THINGS + ("x", AlwaysEqual()):
            self.refused(NoPerson, (thing,), roots.chain, thing, None)
            self.refused(NoPerson, (thing,), roots.root, thing)
        for what in ODD_THINGS + (1, -1, "Given", "f", AlwaysEqual()):
            self.refused(NoPlace, (what,), roots.chain, "a", what)
            self.refused(NoPlace, (what,), roots.root, "a", what)
        self.refused(NoPlace, (0,), Roots(PLAIN, Record(0, ROWS)).chain, "a", 0)
        for root in (("founder", "a", 1), ("free", "a", "given"), ("founder", "b", "given"), ("founder", "a"), ("founder", "a", False), (), ("founder", "a", 0, 0), None,
                     ["founder", "a", 0], "founder", AlwaysEqual(), ("founder", "a", None)):
            self.refused(NoRoot, (root,), roots.bearers, root)
        self.assertEqual(roots.bearers(("founder", "a", 0)), ())

    def test_long_records(self):
        custom = Custom([Take("f"), Free()], FREE, house=[("f", 0)])
        rows = [row if row[0] != "comes" else row[:4] + ((row[3],),) for row in line_rows(1600)]
        roots = Roots(custom, Record(1, rows))
        last = rows[-1][1]
        self.assertEqual(len(roots.chain(last)), 1601)
        self.assertEqual(len(roots.chain(last, 0)), 3202)
        self.assertEqual(len(roots.bearers(("founder", "fz", "given"))), 1601)


class ChanceTest(Checks):
    def test_against_chains_told_plainly(self):
        rng = random.Random(309)
        for _ in range(120):
            custom = chance_custom(rng, longest=3)
            record = chance_record(rng, custom, 25, pool=rng.choice([3, 5000]))
            roots, naming = Roots(custom, record), Naming(custom, record)
            names = {}
            for label in record.persons:
                for what in ("given", *range(custom.width)):
                    chain = roots.chain(label, what)
                    self.assertEqual(chain, plain_chain(custom, record, label, what))
                    rows = [holder[0] for holder in chain]
                    self.assertEqual(rows, sorted(set(rows), reverse=True))
                    sort = "founder" if chain[-1][1] in record.founders else "free"
                    self.assertEqual(roots.root(label, what), (sort, *chain[-1][1:]))
                    name = naming.given_of(label) if what == "given" else naming.house_of(label)[what]
                    names.setdefault(roots.root(label, what), set()).add(name)
            # All names of one root are alike; if the roots are unlike, unlike roots have unlike names.
            self.assertTrue(all(len(told) == 1 for told in names.values()))
            if roots.are_unlike:
                self.assertEqual(len(set().union(*names.values())), len(names))
            self.hold_roots(record, roots, naming)

    def hold_roots(self, record, roots, naming):
        told = []
        for index, row in enumerate(record):
            if row[0] == "comes":
                told += [(("founder", row[1], what), name) for what, name in zip(("given", 0, 1), (row[3], *row[4]))]
            elif row[0] == "born" and naming.is_free(row[4]):
                told.append((("free", row[4], "given"), row[5]))
        self.assertEqual(roots.roots, tuple(root for root, _ in told))
        self.assertEqual(roots.are_unlike, len({name for _, name in told}) == len(told))
        for root, _ in told:
            self.assertEqual(roots.bearers(root), tuple(label for label in record.persons if roots.root(label) == root))
