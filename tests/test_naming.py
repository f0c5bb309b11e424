"""Namings [3.1] to [3.5], and what [3.13] says of them."""

import random

from namesakes.clauses import Dead, Free, Never, Number, Take, Unborne, Unlike
from namesakes.customs import Custom
from namesakes.errors import BadChoice, BadWidth, NoCouple, NoPerson
from namesakes.naming import Naming, birth_case, fits
from namesakes.records import Record, beginnings
from tests.checks import Checks
from tests.families import ODD_THINGS, WAYS, Family, chance_clauses, chance_custom, chance_record, label_at, line_rows

FREE = [Free()]
PAIR = [("comes", "a", "s", 1, ()), ("comes", "b", "d", 2, ()), ("weds", "a", "b")]
# Three generations with house names: h is born to c and g, the children of two couples.
HOUSES = [
    ("comes", "a", "s", 1, (10, 11)), ("comes", "b", "d", 2, (20, 21)), ("weds", "a", "b"),
    ("comes", "x", "s", 3, (30, 31)), ("comes", "y", "d", 4, (40, 41)), ("weds", "x", "y"),
    ("born", "a", "b", "s", "c", 5), ("born", "x", "y", "d", "g", 6), ("dies", "b"), ("weds", "c", "g"),
]
RULES = {"house": [("f", 1), ("given", "m")], "son_weds": ["own", 0], "daughter_weds": [1, "own"]}


class NamingTest(Checks):
    def test_the_width_goes_first(self):
        record = Record(0, PAIR + [("born", "a", "b", "s", "c", 1)])
        custom = Custom([Free("f")], FREE, house=[("f", 0)])
        self.refused(BadWidth, (0,), Naming, custom, record)
        self.refused(BadWidth, (2,), Naming, custom, Record(2))
        self.assertIs(fits(custom, record), False)

    def test_barred_choices(self):
        custom = Custom([Take("f", Number(2)), Free("m", "living", "f")], [Free("ever")])
        for choice, bar in ((2, 0), (1, 2)):
            record = Record(0, PAIR + [("born", "a", "b", "s", "c", choice)])
            self.refused(BadChoice, ("c", choice, bar), Naming, custom, record)
            self.assertIs(fits(custom, record), False)
        rows = PAIR + [("born", "a", "b", "d", "c", 5), ("born", "a", "b", "s", "e", 5)]
        self.refused(BadChoice, ("e", 5, 1), Naming, custom, Record(0, rows))
        rows = PAIR + [("born", "a", "b", "d", "c", 5), ("dies", "c"), ("born", "a", "b", "s", "e", 5)]
        self.assertIs(fits(custom, Record(0, rows)), True)
        self.refused(BadChoice, ("g", 5, 0), Naming, custom, Record(0, rows + [("born", "a", "b", "d", "g", 5)]))
        # A Take names the second son, so his choice does not count.
        self.assertIs(fits(custom, Record(0, rows + [("born", "a", "b", "s", "g", 2)])), True)
        # The first one is told.
        rows = PAIR + [("born", "a", "b", "s", "c", 2), ("born", "a", "b", "s", "e", 2)]
        self.refused(BadChoice, ("c", 2, 0), Naming, custom, Record(0, rows))

    def test_attributes(self):
        custom, record = Custom(FREE, FREE), Record(0, PAIR)
        naming = Naming(custom, record)
        self.assertEqual((naming.custom, naming.record, naming.labels), (custom, record, ("a", "b")))
        self.assertEqual((len(naming), list(naming)), (2, ["a", "b"]))

    def test_nobody(self):
        naming = Naming(Custom(FREE, FREE), Record(0, PAIR))
        for thing in ODD_THINGS + ("x",):
            for tell in ("given_of", "first_house_of", "house_of", "full_of", "clause_of", "passed_of", "is_free"):
                self.refused(NoPerson, (thing,), getattr(naming, tell), thing)

    def test_house_names(self):
        naming = Naming(Custom(FREE, FREE, **RULES), Record(2, HOUSES))
        # At the weddings: a (10, 20), b (11, 21); x (30, 40), y (31, 41).
        told = {who: (naming.first_house_of(who), naming.house_of(who)) for who in naming}
        self.assertEqual(told, {
            "a": ((10, 11), (10, 20)), "b": ((20, 21), (11, 21)), "x": ((30, 31), (30, 40)), "y": ((40, 41), (31, 41)),
            "c": ((20, 2), (20, 40)), "g": ((40, 4), (2, 4)),
        })
        self.assertEqual(naming.full_of("c"), (20, 40, 5))
        self.assertEqual((naming.clause_of("a"), naming.passed_of("a"), naming.is_free("a")), (None, (), False))
        self.assertEqual((naming.clause_of("c"), naming.passed_of("c"), naming.is_free("c")), (0, (), True))

    def test_house_names_as_they_are_at_the_birth(self):
        custom = Custom([Take("f.1"), Free()], [Take("m.0"), Free()], **RULES)
        rows = HOUSES + [("born", "c", "g", "s", "i", 9), ("born", "c", "g", "d", "j", 9), ("dies", "g"),
                         ("comes", "k", "d", 0, (50, 51)), ("weds", "c", "k"), ("born", "c", "k", "s", "l", 9)]
        naming = Naming(custom, Record(2, rows))
        self.assertEqual([naming.given_of(who) for who in "cgijl"], [20, 31, 40, 2, 50])
        self.assertEqual(naming.passed_of("i"), ())
        self.assertIs(naming.is_free("i"), False)

    def test_half_siblings_do_not_count(self):
        custom = Custom([Take("f", Never(), Number(1)), Free()], FREE)
        rows = PAIR + [("born", "a", "b", "s", "c", 5), ("born", "a", "b", "s", "e", 6), ("dies", "b"),
                       ("comes", "g", "d", 7, ()), ("weds", "a", "g"), ("born", "a", "g", "s", "h", 8)]
        naming = Naming(custom, Record(0, rows))
        self.assertEqual([naming.given_of(who) for who in "ceh"], [1, 6, 1])
        self.assertEqual([naming.clause_of(who) for who in "ceh"], [0, 1, 0])
        self.assertEqual(naming.passed_of("e"), (0,))

    def test_the_birth_case(self):
        rows = HOUSES + [("born", "c", "g", "s", "i", 7), ("born", "c", "g", "d", "j", 8), ("born", "c", "g", "s", "k", 7),
                         ("dies", "i")]
        naming = Naming(Custom(FREE, FREE, **RULES), Record(2, rows))
        case = birth_case(naming, "c", "g", "s")
        self.assertEqual(case.names, {
            "f": 5, "m": 6, "ff": 1, "fm": 2, "mf": 3, "mm": 4, "f.0": 20, "f.1": 40, "m.0": 2, "m.1": 4,
        })
        self.assertEqual(case.lives, {"f": "alive", "m": "alive", "ff": "alive", "fm": "dead", "mf": "alive", "mm": "alive"})
        self.assertEqual((case.kind, case.number, case.borne, case.ever), ("s", 3, (8, 7), (7, 8, 7)))
        case = birth_case(naming, "c", "g", "d")
        self.assertEqual((case.kind, case.number), ("d", 2))

    def test_errors_of_the_birth_case(self):
        naming = Naming(Custom(FREE, FREE), Record(0, PAIR + [("comes", "c", "d", 1, ())]))
        self.refused(NoPerson, ("x",), birth_case, naming, "x", "y", "s")
        self.refused(NoPerson, ("y",), birth_case, naming, "a", "y", "s")
        self.refused(NoPerson, (None,), birth_case, naming, "a", None, "s")
        for pair in (("b", "a"), ("a", "c"), ("a", "a"), ("c", "b"), ("b", "c")):
            self.refused(NoCouple, pair, birth_case, naming, *pair, "s")
        naming = Naming(Custom(FREE, FREE), Record(0, PAIR + [("dies", "b")]))
        self.refused(NoCouple, ("a", "b"), birth_case, naming, "a", "b", "s")

    def test_equality(self):
        record = Record(0, PAIR + [("born", "a", "b", "s", "c", 1)])
        one = Naming(Custom(FREE, FREE), record)
        # Another custom and another choice of a child that is left free or not.
        self.assertEqual(one, Naming(Custom(FREE, [Take("f"), Free()]), record))
        self.assertEqual(one, Naming(Custom(FREE, FREE), record.after(("dies", "a"))))
        self.unlike_all(one, Naming(Custom([Take("f"), Free()], FREE), record))
        self.unlike_all(one, Naming(Custom([Take("ff"), Free()], FREE), record))
        self.unlike_all(one, Naming(Custom(FREE, FREE), record.shorter()), list(one), None)
        self.unlike_all(one, Naming(Custom(FREE, FREE), Record(0, PAIR + [("born", "a", "b", "s", "c", 2)])))
        two = Record(0, PAIR + [("born", "a", "b", "s", "c", 1), ("born", "a", "b", "s", "e", 1)])
        self.unlike_all(
            Naming(Custom([Take("f", Number(1)), Free()], FREE), two),
            Naming(Custom([Take("f", Number(2)), Free()], FREE), two),
        )
        passed = [Custom([Take("f", condition), Free()], FREE) for condition in (Number(1), Number(2))]
        self.assertEqual(Naming(Custom([Take("f", Dead("m")), Free()], FREE), record),
                         Naming(Custom([Take("f", Dead("f")), Free()], FREE), record))
        self.unlike_all(Naming(passed[0], record), Naming(passed[1], record))

    def test_equality_asks_the_order_of_labels(self):
        one, other = Record(0, PAIR[:2]), Record(0, [PAIR[1], PAIR[0]])
        self.unlike_all(Naming(Custom(FREE, FREE), one), Naming(Custom(FREE, FREE), other))

    def test_equality_asks_the_clause(self):
        # The same person with the same names, once a founder and once a child named by the first Take.
        custom = Custom([Take("f"), Free()], FREE)
        born = Record(0, PAIR + [("born", "a", "b", "s", "c", 9)])
        founder = Record(0, PAIR + [("comes", "c", "s", 1, ())])
        self.unlike_all(Naming(custom, born), Naming(custom, founder))

    def test_equality_asks_why_clauses_were_passed_over(self):
        record = Record(0, PAIR + [("born", "a", "b", "s", "c", 9)])
        takes = (Take("ff"), Take("f", Number(2)), Take("f", Number(1), Number(2)))
        namings = [Naming(Custom([take, Free()], FREE), record) for take in takes]
        self.assertEqual([naming.passed_of("c") for naming in namings], [("nobody",), (0,), (1,)])
        self.unlike_all(namings[0], *namings[1:])
        self.unlike_all(namings[1], namings[2])

    def test_equality_asks_the_first_house_names(self):
        custom = Custom(FREE, FREE, house=[("f", 0)], son_weds=[0])
        records = [Record(1, [("comes", "a", "s", 1, (name,)), ("comes", "b", "d", 1, (6,)), ("weds", "a", "b")]) for name in (5, 7)]
        namings = [Naming(custom, record) for record in records]
        self.assertEqual([naming.house_of("a") for naming in namings], [(6,), (6,)])
        self.unlike_all(*namings)

    def test_equality_of_house_names(self):
        own, mate = [Custom(FREE, FREE, house=[("f", 0)], son_weds=[rule]) for rule in ("own", 0)]
        record = Record(1, [("comes", "a", "s", 1, (5,)), ("comes", "b", "d", 1, (6,)), ("weds", "a", "b")])
        self.unlike_all(Naming(own, record), Naming(mate, record))
        again = Record(1, record.rows + (("born", "a", "b", "s", "c", 1),))
        names = [Custom(FREE, FREE, house=[rule]) for rule in (("f", 0), ("m", 0))]
        self.unlike_all(Naming(names[0], again), Naming(names[1], again))

    def test_a_long_line_and_many_children(self):
        rows = line_rows(1500)
        naming = Naming(Custom([Take("fff"), Take("ff"), Free()], FREE), Record(0, rows))
        self.assertEqual([naming.given_of(who) for who in naming.record.born[:6]], [0, 0, 0, 0, 0, 0])
        self.assertEqual(naming.given_of(naming.record.born[-1]), 0)
        self.assertEqual(naming.clause_of(naming.record.born[-1]), 0)
        rows = line_rows(0) + [("born", "fz", "mz", "s", "x" + label_at(n), n) for n in range(2000)]
        naming = Naming(Custom([Take("f", Number(4), Unborne()), Free("ever")], FREE), Record(0, rows + [("dies", "xad")]))
        self.assertEqual(naming.clause_of("xae"), 1)

    def test_nothing_is_kept(self):
        rows = [list(row) for row in HOUSES]
        record = Record(2, rows)
        naming = Naming(Custom(FREE, FREE, **RULES), record)
        rows[0][4] = (9, 9)
        self.assertEqual(naming.first_house_of("a"), (10, 11))

    def test_by_chance_the_naming_is_as_told_plainly(self):
        rng = random.Random(10)
        for _ in range(250):
            custom = chance_custom(rng, longest=3, most=3)
            record = chance_record(rng, custom, 22, pool=4)
            naming = Naming(custom, record)
            family = Family(custom, record.rows)
            for who in record.persons:
                told = [naming.given_of(who), naming.first_house_of(who), naming.house_of(who), naming.clause_of(who),
                        naming.passed_of(who), naming.is_free(who)]
                self.assertEqual(told, family.told[who], (str(custom), record.rows))
                self.assertEqual(naming.full_of(who), told[2] + (told[0],))
            self.assertIs(fits(custom, record), True)

    def test_by_chance_further_births(self):
        rng = random.Random(11)
        for _ in range(150):
            custom = chance_custom(rng, longest=3, most=2)
            record = chance_record(rng, custom, 18, pool=4)
            naming = Naming(custom, record)
            for father, mother in record.couples:
                for kind in "sd":
                    self.hold_birth(custom, record, naming, father, mother, kind)

    def hold_birth(self, custom, record, naming, father, mother, kind):
        family = Family(custom, record.rows)
        case = birth_case(naming, father, mother, kind)
        row = ("born", father, mother, kind, "child", 0)
        wanted = {source: family.name_at(row, source) for source in WAYS[1:]}
        for place in range(custom.width):
            wanted.update({f"{parent}.{place}": family.name_at(row, f"{parent}.{place}") for parent in "fm"})
        self.assertEqual({source: case.names.get(source) for source in wanted}, wanted)
        lives = {way: "dead" if family.is_dead(family.elder(row, way)) else "alive"
                 for way in WAYS[1:] if family.elder(row, way) is not None}
        self.assertEqual(case.lives, lives)
        self.assertEqual((case.borne, case.ever), (tuple(family.borne(father, mother)), tuple(family.ever(father, mother))))
        index, name, passed = family.judge(row)
        named = custom(case)
        self.assertEqual((named.index, named.name, named.passed), (index, name, passed))
        for choice in range(6):
            barred = choice in family.barred_names(row)
            self.assertIs(fits(custom, record.after(row[:5] + (choice,))), not barred)

    def test_by_chance_beginnings_and_further_deaths(self):
        rng = random.Random(12)
        for _ in range(60):
            custom = chance_custom(rng, longest=3)
            record = chance_record(rng, custom, 20)
            naming = Naming(custom, record)
            for beginning in beginnings(record):
                part = Naming(custom, beginning)
                for who in part:
                    for tell in ("given_of", "first_house_of", "clause_of", "passed_of", "is_free"):
                        self.assertEqual(getattr(part, tell)(who), getattr(naming, tell)(who))
            for who in record.living:
                self.assertEqual(Naming(custom, record.after(("dies", who))), naming)

    def test_by_chance_a_take_that_names_nobody_changes_no_name(self):
        rng = random.Random(13)
        for _ in range(60):
            custom = chance_custom(rng, width=0, longest=3)
            record = chance_record(rng, custom, 20)
            naming = Naming(custom, record)
            more = chance_clauses(rng, 0)[:-1] or [Take("fff", Unlike("f", "f"))]
            wider = Custom([more[0], *custom.sons], custom.daughters)
            if fits(wider, record):
                other = Naming(wider, record)
                if not any(other.clause_of(who) == 0 and record.kind_of(who) == "s" for who in record.born):
                    self.assertEqual([other.given_of(who) for who in other], [naming.given_of(who) for who in naming])
