"""The next child, and records with choices put right [3.5], [3.6]."""

import random

from namesakes.choices import Coming, next_child, settled_record
from namesakes.clauses import Free, Never, Number, Take, Unborne
from namesakes.customs import Custom
from namesakes.errors import BadWidth, NoCouple, NoPerson
from namesakes.naming import Naming, fits
from namesakes.records import Record
from tests.checks import Checks
from tests.families import ODD_THINGS, AlwaysEqual, Family, chance_custom, chance_record, label_at

FREE = [Free()]
PAIR = [("comes", "a", "s", 1, ()), ("comes", "b", "d", 2, ()), ("weds", "a", "b")]


def told(coming):
    return (coming.clause, coming.name, coming.house, coming.passed, coming.barred)


class NextChildTest(Checks):
    def test_the_result(self):
        self.assertEqual(told(Coming(1, 2, 3, 4, 5)), (1, 2, 3, 4, 5))
        self.assertEqual(told(Coming(barred=5, passed=4, house=3, name=2, clause=1)), (1, 2, 3, 4, 5))

    def test_a_child_that_a_take_names(self):
        custom = Custom([Take("ff"), Take("m", Number(2)), Take("f"), Free("ever", "m")], FREE)
        naming = Naming(custom, Record(0, PAIR))
        self.assertEqual(told(next_child(naming, "a", "b", "s")), (2, 1, (), ("nobody", 0), ()))
        self.assertEqual(told(next_child(naming, "a", "b", "d")), (0, None, (), (), ()))
        naming = Naming(custom, Record(0, PAIR + [("born", "a", "b", "s", "c", 9)]))
        self.assertEqual(told(next_child(naming, "a", "b", "s")), (1, 2, (), ("nobody",), ()))

    def test_each_sort_of_bar(self):
        rows = PAIR + [("born", "a", "b", "s", "c", 5), ("born", "a", "b", "d", "e", 6), ("dies", "c"), ("born", "a", "b", "s", "g", 7),
                       ("born", "a", "b", "d", "h", 5)]
        for bars, barred in (((), ()), (("f",), (1,)), (("m", "f"), (2, 1)), (("living",), (6, 7, 5)), (("ever",), (5, 6, 7)),
                             (("m", "ever", "f"), (2, 5, 6, 7, 1)), (("living", "ever"), (6, 7, 5)), (("ff",), ()), (("ff", "m", "mm"), (2,)),
                             (("f", "f"), (1,))):
            naming = Naming(Custom([Free(*bars)], FREE), Record(0, rows))
            self.assertEqual(next_child(naming, "a", "b", "s").barred, barred)
            naming = Naming(Custom(FREE, [Take("fff"), Free(*bars)]), Record(0, rows[:-1]))
            coming = next_child(naming, "a", "b", "d")
            self.assertEqual((coming.clause, coming.name, coming.passed), (1, None, ("nobody",)))

    def test_names_that_are_barred_twice(self):
        rows = PAIR + [("born", "a", "b", "s", "c", 2), ("born", "a", "b", "s", "e", 1), ("born", "a", "b", "d", "g", 2)]
        naming = Naming(Custom(FREE, [Free("m", "ever", "f", "living")]), Record(0, rows[:-1]))
        self.assertEqual(next_child(naming, "a", "b", "d").barred, (2, 1))
        naming = Naming(Custom([Free("ever")], FREE), Record(0, rows[:3]))
        self.assertEqual(next_child(naming, "a", "b", "s").barred, ())
        naming = Naming(Custom(FREE, FREE), Record(0, rows))
        self.assertEqual(next_child(naming, "a", "b", "s").barred, ())

    def test_house_names_at_the_end_of_the_record(self):
        custom = Custom([Free("f.0", "m.1")], FREE, house=[("f", 1), ("given", "m")], son_weds=["own", 0], daughter_weds=[1, "own"])
        rows = [("comes", "a", "s", 1, (10, 11)), ("comes", "b", "d", 2, (20, 21)), ("weds", "a", "b"), ("dies", "b"),
                ("comes", "e", "d", 3, (30, 31)), ("weds", "a", "e")]
        naming = Naming(custom, Record(2, rows))
        # At his weddings a becomes (10, 20) and then (10, 30), e becomes (20, 31).
        self.assertEqual((naming.house_of("a"), naming.house_of("e")), ((10, 30), (20, 31)))
        self.assertEqual(told(next_child(naming, "a", "e", "s")), (0, None, (30, 3), (), (10, 31)))

    def test_wrong_ones_in_order(self):
        naming = Naming(Custom(FREE, FREE), Record(0, PAIR + [("comes", "e", "d", 3, ()), ("comes", "g", "s", 4, ())]))
        for thing in ODD_THINGS + ("x", AlwaysEqual()):
            self.refused(NoPerson, (thing,), next_child, naming, thing, None, "s")
            self.refused(NoPerson, (thing,), next_child, naming, "a", thing, "s")
        for father, mother in (("a", "e"), ("g", "b"), ("b", "a"), ("a", "a"), ("g", "e"), ("e", "g")):
            self.refused(NoCouple, (father, mother), next_child, naming, father, mother, "s")
        widow = Naming(naming.custom, naming.record.after(("dies", "a")))
        self.refused(NoCouple, ("a", "b"), next_child, widow, "a", "b", "d")

    def test_by_chance_it_is_what_a_birth_tells(self):
        """A further birth gets the name that is told; free names are exactly those that are not barred [3.13]."""
        rng = random.Random(61)
        for _ in range(60):
            custom = chance_custom(rng)
            record = chance_record(rng, custom, rng.randint(4, 16))
            naming = Naming(custom, record)
            for father, mother in record.couples:
                for kind in "sd":
                    self.hold_birth(custom, record, next_child(naming, father, mother, kind), ("born", father, mother, kind, "zz", 0))

    def hold_birth(self, custom, record, coming, row):
        barred = Family(custom, record.rows).barred_names(row)
        self.assertEqual(coming.barred, tuple(dict.fromkeys(barred)))
        for name in range(12):
            further = record.after(row[:5] + (name,))
            self.assertEqual(fits(custom, further), name not in coming.barred)
            if name not in coming.barred:
                naming = Naming(custom, further)
                self.assertEqual(naming.given_of("zz"), name if coming.name is None else coming.name)
                self.assertEqual((naming.clause_of("zz"), naming.first_house_of("zz"), naming.passed_of("zz")),
                                 (coming.clause, coming.house, coming.passed))
                self.assertEqual(naming.is_free("zz"), coming.name is None)


class SettledTest(Checks):
    def test_several_choices_barred_one_behind_the_other(self):
        custom = Custom([Take("ff", Never()), Free("ever", "f")], [Free("living")])
        rows = PAIR + [("born", "a", "b", "s", label, 1) for label in "cegh"] + [("born", "a", "b", "d", "i", 0), ("dies", "c"),
                                                                              ("born", "a", "b", "d", "j", 0), ("born", "a", "b", "d", "k", 2)]
        settled = settled_record(custom, Record(0, rows))
        self.assertEqual([row[5] for row in settled if row[0] == "born"], [0, 2, 3, 4, 1, 0, 5])
        self.assertTrue(fits(custom, settled))
        unchanged = [(row, other) for row, other in zip(rows, settled) if row != other]
        self.assertEqual([row[4] for row, _ in unchanged], ["c", "e", "g", "h", "i", "k"])
        self.assertTrue(all(row[:5] == other[:5] for row, other in unchanged))

    def test_what_is_not_looked_at_stays(self):
        custom = Custom([Take("f"), Free()], [Take("m", Number(1)), Free("m", "f")])
        rows = PAIR + [("born", "a", "b", "s", "c", 2), ("born", "a", "b", "d", "e", 2), ("born", "a", "b", "d", "g", 2)]
        settled = settled_record(custom, Record(0, rows))
        self.assertEqual(settled.rows, tuple(rows[:5]) + (("born", "a", "b", "d", "g", 0),))

    def test_a_record_that_fits_stays(self):
        rng = random.Random(62)
        for _ in range(40):
            custom = chance_custom(rng)
            record = chance_record(rng, custom, 14)
            self.assertEqual(settled_record(custom, record), record)
        self.assertEqual(settled_record(custom, Record(custom.width)), Record(custom.width))

    def test_by_chance_each_choice(self):
        rng = random.Random(63)
        changed = 0
        for _ in range(80):
            custom = chance_custom(rng)
            plain = chance_record(rng, Custom(FREE, FREE, house=custom.house), 16, pool=4)
            settled = settled_record(custom, plain)
            rows = []
            for row, found in zip(plain, settled, strict=True):
                if row[0] == "born":
                    barred = Family(custom, rows).barred_names(row)
                    least = [name for name in range(100) if name not in barred][0]
                    row = row[:5] + (least if row[5] in barred else row[5],)
                    changed += row[5] in barred
                self.assertEqual(row, found)
                rows.append(row)
                changed += row not in plain.rows
        self.assertGreater(changed, 40)

    def test_the_width(self):
        custom = Custom(FREE, FREE, house=[("f", 0)])
        for width in (0, 2):
            self.refused(BadWidth, (width,), settled_record, custom, Record(width))

    def test_a_long_record(self):
        custom = Custom([Free("ever")], [Free("living")])
        rows = PAIR + [("born", "a", "b", "sd"[number % 2], "x" + label_at(number), 0) for number in range(1500)]
        settled = settled_record(custom, Record(0, rows))
        self.assertEqual([row[5] for row in settled.rows[3:]], list(range(1500)))
