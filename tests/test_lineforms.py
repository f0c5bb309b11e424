"""Bearers of one name in a line, and lines written out [8.5], [8.6]."""

import random

from namesakes.clauses import Free, Number, Take, Unlike
from namesakes.customs import Custom
from namesakes.errors import BadGeneration, BadLine
from namesakes.lineforms import Bearers, LineRecord, back_after, bearers_of, lasting_origins, line_record
from namesakes.lines import Line
from namesakes.naming import Naming
from tests.checks import Checks
from tests.families import ODD_THINGS, AlwaysEqual
from tests.plainlines import chance_lifeless, chance_line, chance_steps, go_along, shown_origins

FREE = [Free()]
ELDEST = Custom([Take("ff", Number(1)), Take("f", Number(2)), Free()], FREE)


class BackTest(Checks):
    def test_by_hand(self):
        line = Line(ELDEST, [], [("s", 1)])
        self.assertEqual([back_after(line, n) for n in (1, 2, 3, 10 ** 300 - 1, 10 ** 300)], [2] * 5)
        line = Line(ELDEST, [], [("s", 2)])
        self.assertEqual([back_after(line, n) for n in (1, 10 ** 300)], [1, 1])
        line = Line(ELDEST, [], [("d", 1)])
        self.assertEqual([back_after(line, n) for n in (1, 10 ** 300)], [None, None])
        # Names that come back once.
        line = Line(Custom([Take("f", Unlike("f", "ff")), Free()], FREE), [], [("s", 1)])
        self.assertEqual([back_after(line, n) for n in (1, 2, 3, 10 ** 300 - 1, 10 ** 300)], [1, None, 1, 1, None])

    def test_names_ahead_of_the_settled_ones(self):
        line = Line(ELDEST, [("d", 1)] * 3 + [("s", 1)] * 3, [("s", 2)])
        self.assertEqual([back_after(line, n) for n in range(1, 9)], [None, None, None, 2, None, 1, 1, 1])
        line = Line(ELDEST, [("s", 2)] * 3, [("d", 1)])
        self.assertEqual([back_after(line, n) for n in range(1, 6)], [1, 1, None, None, None])

    def test_generations(self):
        line = Line(ELDEST, [], [("s", 1)])
        for thing in ODD_THINGS + (0, -1, 10 ** 300 + 1, AlwaysEqual()):
            self.refused(BadGeneration, (thing,), back_after, line, thing)

    def test_by_chance(self):
        rng = random.Random(811)
        for _ in range(120):
            line = chance_line(rng)
            many = line.settled + 8 * line.cycle + 20
            origins, _ = go_along(line, many)
            for n in range(1, line.settled + 2 * line.cycle):
                later = [other for other in range(n + 1, many + 1) if origins[other] == origins[n]]
                self.assertEqual(back_after(line, n), later[0] - n if later else None)
            far = line.settled + rng.randrange(line.cycle)
            self.assertEqual(back_after(line, far + line.cycle * 10 ** 290), back_after(line, far))


class BearersTest(Checks):
    def test_the_result(self):
        for told in (Bearers((1,), (2,), 3), Bearers(cycle=3, numbers=(1,), remainders=(2,))):
            self.assertEqual((told.numbers, told.remainders, told.cycle), ((1,), (2,), 3))
        self.assertEqual(Bearers((1,), (2,), 3), Bearers((1,), (2,), 3))
        self.unlike_all(Bearers((1,), (2,), 3), Bearers((), (2,), 3), Bearers((1,), (), 3), Bearers((1,), (2,), 4), ((1,), (2,), 3), None, 3)

    def test_by_hand(self):
        line = Line(ELDEST, [], [("s", 1)])
        self.assertEqual(bearers_of(line, ("own", 1)), Bearers((), (1,), 2))
        self.assertEqual(bearers_of(line, ("first", "f")), Bearers((), (0,), 2))
        line = Line(Custom([Take("f", Unlike("f", "ff")), Free()], FREE), [], [("s", 1)])
        self.assertEqual(bearers_of(line, ("own", 7)), Bearers((7, 8), (), 2))
        self.assertEqual(bearers_of(line, ("own", 8)), Bearers((), (), 2))
        big = 10 ** 299 + 1
        self.assertEqual(bearers_of(line, ("own", big)), Bearers((big, big + 1), (), 2))
        line = Line(ELDEST, [("d", 1)] * 3 + [("s", 1)] * 3, [("s", 2)])
        self.assertEqual(bearers_of(line, ("own", 4)), Bearers((4,), (0,), 1))
        self.assertEqual(bearers_of(line, ("mate", 3, "")), Bearers((5,), (), 1))
        # The last bearers of a name can be beyond the last person that can be asked.
        custom = Custom([Take("fff"), Free()], [Take("mmm"), Free()])
        line = Line(custom, [], [("s", 1), ("d", 1)])
        self.assertEqual(bearers_of(line, ("own", 10 ** 300)), Bearers((10 ** 300,), (), line.cycle))

    def test_origins_of_no_person(self):
        for line in (Line(ELDEST, [], [("s", 1)]), Line(ELDEST, [("d", 1)], [("d", 2)]), Line(ELDEST, [("s", 1)], [("s", 2), ("d", 1)])):
            for origin in (("first", "fm"), ("first", "m"), ("mate", 0, ""), ("mate", 4, ".0"), ("mate", 4, "ff"), ("own", 0), ("own", -3), ("mate", -2, ""), ("first", "f.1")):
                self.assertEqual(bearers_of(line, origin), Bearers((), (), line.cycle))

    def test_by_chance(self):
        rng = random.Random(812)
        stays = 0
        for _ in range(120):
            line = chance_line(rng)
            many = line.settled + 4 * line.cycle + 30
            origins, _ = go_along(line, many + 30)
            found = set(origins[1:many])
            for k in range(0, 12):
                found |= {("own", k)} | {("mate", k, place) for place in shown_origins(line.custom.width, line.elders)}
            for origin in found:
                bearers = bearers_of(line, origin)
                self.assertEqual((bearers.numbers, bearers.remainders), (tuple(sorted(bearers.numbers)), tuple(sorted(bearers.remainders))))
                self.assertTrue(set(bearers.remainders) <= set(line.stays))
                told = [n for n in range(1, many) if n in bearers.numbers or n >= line.settled and n % line.cycle in bearers.remainders]
                self.assertEqual(told, [n for n in range(1, many) if origins[n] == origin])
                stays += len(bearers.remainders)
                self.assertFalse([n for n in bearers.numbers if n >= line.settled and n % line.cycle in bearers.remainders])
        self.assertGreater(stays, 10)


class LastingTest(Checks):
    def test_by_hand(self):
        self.assertEqual(lasting_origins(Line(ELDEST, [], [("s", 1)])), (("own", 1), ("first", "f")))
        self.assertEqual(lasting_origins(Line(ELDEST, [], [("s", 2)])), (("first", "f"),))
        self.assertEqual(lasting_origins(Line(ELDEST, [], [("d", 2)])), ())
        self.assertEqual(lasting_origins(Line(Custom([Take("ff", Number(2)), Free()], FREE), [], [("s", 2), ("s", 1)])), (("own", 1),))

    def test_by_chance(self):
        rng = random.Random(813)
        for _ in range(120):
            line = chance_line(rng)
            many = line.settled + 9 * line.cycle + 20
            origins, _ = go_along(line, many)
            last = many - 3 * line.cycle
            # A name that has a bearer long ago and one still now lasts for ever.
            lasting = [n for n in range(line.settled, line.settled + line.cycle) if origins[n] in origins[last:]]
            self.assertEqual(lasting_origins(line), tuple(dict.fromkeys(origins[n] for n in lasting)))
            self.assertEqual(set(lasting_origins(line)), {origin for origin in set(origins[1:]) if bearers_of(line, origin).remainders})


class RecordTest(Checks):
    def hold(self, line, many):
        """The record is as [8.1] says, and its names are alike where the origins are."""
        told = line_record(line, many)
        self.assertIs(type(told), LineRecord)
        record, custom = told.record, line.custom
        naming = Naming(custom, record)
        self.assertEqual((record.width, len(told.mates), len(told.persons)), (custom.width, many, many))
        self.assertEqual((type(told.mates), type(told.persons)), (tuple, tuple))
        self.assertEqual(set(record.living), set(record.persons))
        mother = told.mates[0]
        self.assertEqual((record.kind_of(told.father), record.kind_of(mother)), ("s", "d"))
        parents = (told.father, mother)
        named = 0
        for n, person in enumerate(told.persons, 1):
            kind, number = line.step_at(n)
            self.assertEqual((record.father_of(person), record.mother_of(person)), parents)
            self.assertEqual((record.kind_of(person), record.number_of(person)), (kind, number))
            self.assertEqual(record.children_of(*parents), (*record.siblings_of(person), person))
            self.assertEqual({record.kind_of(child) for child in record.children_of(*parents)}, {kind})
            named += number
            self.assertEqual(naming.clause_of(person), line.clause_at(n))
            if n < many:
                mate = told.mates[n]
                self.assertIn(mate, record.founders)
                parents = (person, mate) if kind == "s" else (mate, person)
                self.assertIn(parents, record.couples)
        self.assertEqual(len(record), 3 + named + 2 * (many - 1))
        self.hold_names(line, told, naming)

    def hold_names(self, line, told, naming):
        brought = [name for row in told.record if row[0] == "comes" for name in (row[3], *row[4])]
        brought += [row[5] for row in told.record if row[0] == "born"]
        self.assertEqual(len(set(brought)), len(brought))
        # The same change leads each origin to its name, and each name to its origin.
        pairs = {(line.origin_at(n), naming.given_of(person)) for n, person in enumerate(told.persons, 1)}
        self.assertEqual(len(pairs), len({origin for origin, _ in pairs}))
        self.assertEqual(len(pairs), len({name for _, name in pairs}))
        for origin, name in pairs:
            self.assertEqual(name, self.name_at(told, naming, origin))

    def name_at(self, told, naming, origin):
        if origin[0] == "own":
            return naming.given_of(told.persons[origin[1] - 1])
        if origin[0] == "mate":
            label, place = told.mates[origin[1]], origin[2]
        else:
            label, place = told.father if origin[1][0] == "f" else told.mates[0], origin[1][1:]
        return naming.given_of(label) if place == "" else naming.first_house_of(label)[int(place[1])]

    def test_one_and_a_hundred_persons(self):
        rng = random.Random(814)
        for width in (0, 1, 2):
            for _ in range(6):
                line = Line(chance_lifeless(rng, width), chance_steps(rng, 0, 6), chance_steps(rng, 1, 6))
                for many in (1, 2, 100):
                    self.hold(line, many)
        self.hold(Line(ELDEST, [], [("s", 4)]), 100)

    def test_errors(self):
        line = Line(ELDEST, [], [("s", 1)])
        old = Line(ELDEST, [], [("s", 1)], elders=True)
        for thing in ODD_THINGS + (0, -1, 101, AlwaysEqual()):
            self.refused(BadGeneration, (thing,), line_record, line, thing)
            self.refused(BadGeneration, (thing,), line_record, old, thing)
        self.refused(BadLine, (0, "elders"), line_record, old, 1)
        self.refused(BadLine, (0, "elders"), line_record, old, 100)
