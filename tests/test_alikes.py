"""Namesakes among siblings and clauses used [3.7]."""

import random

from namesakes.alikes import clauses_used, first_clash, namesakes_among
from namesakes.clauses import Dead, Free, Number, Take
from namesakes.customs import Custom
from namesakes.naming import Naming
from namesakes.records import Record
from tests.checks import Checks
from tests.families import chance_custom, chance_record, label_at, line_rows

FREE = Custom([Free()], [Free()])
PAIR = [("comes", "a", "s", 1, ()), ("comes", "b", "d", 2, ()), ("weds", "a", "b")]


def births(*names, start=0, couple=("a", "b")):
    return [("born", *couple, "sd"[index % 2], "x" + label_at(start + index), name) for index, name in enumerate(names)]


def naming_of(*rows):
    return Naming(FREE, Record(0, PAIR + list(rows)))


class AlikesTest(Checks):
    def test_pairs_in_the_order_of_births(self):
        naming = naming_of(*births(5, 6, 5, 6, 5, 7))
        self.assertEqual(namesakes_among(naming), (
            ("xaa", "xac"), ("xaa", "xae"), ("xab", "xad"), ("xac", "xae"),
        ))
        self.assertEqual(namesakes_among(naming_of()), ())
        self.assertEqual(namesakes_among(naming_of(*births(5, 6))), ())

    def test_only_the_living(self):
        naming = naming_of(*births(5, 5, 5), ("dies", "xab"))
        self.assertEqual(namesakes_among(naming), (("xaa", "xac"),))
        naming = naming_of(*births(5, 5), ("dies", "xab"))
        self.assertEqual(namesakes_among(naming), ())

    def test_the_couple_need_not_live(self):
        naming = naming_of(*births(5, 5), ("dies", "a"), ("dies", "b"))
        self.assertEqual(namesakes_among(naming), (("xaa", "xab"),))

    def test_only_children_of_one_couple(self):
        again = [("dies", "b"), ("comes", "c", "d", 5, ()), ("weds", "a", "c")]
        more = births(5, 5, start=9, couple=("a", "c"))
        naming = naming_of(*births(5), *again, *more)
        self.assertEqual(namesakes_among(naming), ((more[0][4], more[1][4]),))
        self.assertEqual(namesakes_among(naming_of(*births(5), *again, more[0])), ())
        self.assertIsNone(first_clash(naming_of(*births(5), *again, more[0])))

    def test_couples_mixed(self):
        other = [("comes", "c", "s", 3, ()), ("comes", "e", "d", 4, ()), ("weds", "c", "e")]
        rows = [births(5)[0], births(5, start=1, couple=("c", "e"))[0], births(5, start=2)[0],
                births(5, start=3, couple=("c", "e"))[0]]
        naming = naming_of(*other, *rows)
        self.assertEqual(namesakes_among(naming), (("xaa", "xac"), ("xab", "xad")))
        self.assertEqual(first_clash(naming), (8, "xaa", "xac"))

    def test_the_first_clash(self):
        self.assertEqual(first_clash(naming_of(*births(5, 6, 7, 6, 5))), (6, "xab", "xad"))
        self.assertIsNone(first_clash(naming_of(*births(5, 6, 7))))
        self.assertIsNone(first_clash(naming_of()))
        rows = births(5) + [("dies", "xaa")] + births(5, start=1)
        self.assertIsNone(first_clash(naming_of(*rows)))
        self.assertEqual(first_clash(naming_of(*rows, *births(5, start=2))), (6, "xab", "xac"))
        # A clash stays one, though the elder child dies later.
        self.assertEqual(first_clash(naming_of(*births(5, 5), ("dies", "xaa"))), (4, "xaa", "xab"))
        # The death of a founder ends nobody's name.
        self.assertEqual(first_clash(naming_of(("comes", "c", "s", 5, ()), *births(5), ("dies", "c"), *births(5, start=1))),
                         (6, "xaa", "xab"))

    def test_clauses_used(self):
        custom = Custom([Take("f", Number(2)), Take("m", Number(1)), Free()], [Take("f", Dead("f")), Free()])
        rows = PAIR + [("born", "a", "b", "d", "c", 1), ("born", "a", "b", "s", "e", 1), ("born", "a", "b", "s", "g", 1),
                       ("dies", "g")]
        self.assertEqual(clauses_used(Naming(custom, Record(0, rows))), (("s", 0), ("s", 1), ("d", 1)))
        self.assertEqual(clauses_used(Naming(custom, Record(0, PAIR))), ())
        rows.append(("born", "a", "b", "s", "h", 1))
        self.assertEqual(clauses_used(Naming(custom, Record(0, rows))), (("s", 0), ("s", 1), ("s", 2), ("d", 1)))
        last = Custom([Take("ff")] * 4 + [Free()], [Free()])
        rows = PAIR + [("born", "a", "b", "s", "e", 1)]
        self.assertEqual(clauses_used(Naming(last, Record(0, rows))), (("s", 4),))

    def test_they_need_only_the_record_and_the_given_names(self):
        class Other:
            record = Record(0, PAIR + births(5, 6, 7))

            def given_of(self, label):
                return {"xaa": 1, "xac": 1}.get(label, 0)

        self.assertEqual(namesakes_among(Other()), (("xaa", "xac"),))
        self.assertEqual(first_clash(Other()), (5, "xaa", "xac"))

    def test_many_children(self):
        rows = [("born", "fz", "mz", "s", "x" + label_at(n), n) for n in range(4000)]
        naming = Naming(FREE, Record(0, line_rows(0) + rows))
        self.assertEqual(namesakes_among(naming), ())
        self.assertIsNone(first_clash(naming))

    def test_by_chance_against_all_pairs(self):
        rng = random.Random(14)
        clashes = 0
        for _ in range(120):
            custom = chance_custom(rng)
            record = chance_record(rng, custom, 24, pool=3)
            naming = Naming(custom, record)
            pairs = self.plain_pairs(naming, record)
            self.assertEqual(namesakes_among(naming), tuple(pairs))
            clash = None
            for index, row in enumerate(record.rows):
                if row[0] == "born" and clash is None:
                    ahead = self.plain_pairs(naming, record.until(index + 1))
                    found = [pair for pair in ahead if pair[1] == row[4]]
                    clash = (index, *found[0]) if found else None
            self.assertEqual(first_clash(naming), clash)
            clashes += clash is not None
            used = sorted({("sd".index(record.kind_of(who)), naming.clause_of(who)) for who in record.born})
            self.assertEqual(clauses_used(naming), tuple(("sd"[kind], index) for kind, index in used))
        self.assertTrue(20 < clashes < 120)

    def plain_pairs(self, naming, record):
        found = []
        for one in record.born:
            for other in record.siblings_of(one):
                later = record.row_of(one) < record.row_of(other)
                alive = record.is_alive(one) and record.is_alive(other)
                if later and alive and naming.given_of(one) == naming.given_of(other):
                    found.append((one, other))
        return found
