"""Lines for ever [8.1] to [8.4]."""

import random

from namesakes.clauses import Alive, Dead, Free, Never, Number, Take, Unborne, Unlike
from namesakes.customs import Custom
from namesakes.errors import BadGeneration, BadLine
from namesakes.lines import Line
from tests.checks import Checks
from tests.families import ODD_THINGS, AlwaysEqual
from tests.plainlines import chance_lifeless, chance_line, chance_steps, go_along

FREE = [Free()]
PLAIN = Custom(FREE, FREE)
ELDEST = Custom([Take("ff", Number(1)), Take("f", Number(2)), Free()], FREE)


def shifted(origin, by):
    return None if origin[0] == "first" else (origin[0], origin[1] + by, *origin[2:])


def told(line, many):
    return [line.origin_at(n) for n in range(1, many + 1)]


class ExampleTest(Checks):
    def settling(self, line):
        return (line.cycle, line.settled, line.stays)

    def test_the_document(self):
        line = Line(ELDEST, [], [("s", 1)])
        self.assertEqual(told(line, 4), [("own", 1), ("first", "f"), ("own", 1), ("first", "f")])
        self.assertEqual(self.settling(line), (2, 1, (0, 1)))
        line = Line(ELDEST, [], [("s", 2)])
        self.assertEqual(told(line, 3) + [line.origin_at(10 ** 300)], [("first", "f")] * 4)
        self.assertEqual(self.settling(line), (1, 1, (0,)))
        line = Line(ELDEST, [], [("d", 1)])
        self.assertEqual(told(line, 3) + [line.origin_at(10 ** 300)], [("own", 1), ("own", 2), ("own", 3), ("own", 10 ** 300)])
        self.assertEqual(self.settling(line), (1, 1, ()))

    def test_longer_starts_settle_later(self):
        # Behind six daughters a line of eldest sons; the first of them has no father's father.
        line = Line(ELDEST, [("d", 1)] * 6, [("s", 1)])
        self.assertEqual(told(line, 9), [("own", n) for n in range(1, 8)] + [("mate", 6, ""), ("own", 7)])
        self.assertEqual(self.settling(line), (2, 7, (0, 1)))
        line = Line(ELDEST, [("d", 1)] * 3 + [("s", 1)] * 3, [("s", 2)])
        self.assertEqual(told(line, 9), [("own", 1), ("own", 2), ("own", 3), ("own", 4), ("mate", 3, "")] + [("own", 4)] * 4)
        self.assertEqual(self.settling(line), (1, 6, (0,)))

    def test_numbers(self):
        custom = Custom([Take("f", Number(4)), Take("m", Number(3)), Take("ff", Number(2)), Free()], FREE)
        for number, origins in ((1, [("own", 1), ("own", 2), ("own", 3)]), (2, [("own", 1), ("first", "f"), ("own", 1)]),
                                (3, [("first", "m"), ("mate", 1, ""), ("mate", 2, "")]), (4, [("first", "f")] * 3)):
            self.assertEqual(told(Line(custom, [], [("s", number)]), 3), origins)
        self.assertEqual(self.settling(Line(custom, [], [("s", 3)])), (1, 2, ()))

    def test_elder_siblings_live(self):
        # Unborne and Never: the elder one has the name, and lives.
        for condition in (Unborne(), Never()):
            custom = Custom([Take("f", condition), Take("m", condition), Free("living")], FREE)
            lines = [Line(custom, [], [("s", number)]) for number in (1, 2, 3, 4)]
            self.assertEqual([line.origin_at(1) for line in lines], [("first", "f"), ("first", "m"), ("own", 1), ("own", 1)])
            self.assertEqual([line.clause_at(1) for line in lines], [0, 1, 2, 2])
        # Elder siblings of the other kind are not there.
        custom = Custom([Take("f"), Free()], [Take("f", Unborne()), Free()])
        self.assertEqual(told(Line(custom, [], [("d", 1)]), 2), [("first", "f"), ("mate", 1, "")])

    def test_house_names(self):
        # The daughters take the mother's first house name, which is her father's: each wife takes her husband's.
        custom = Custom(FREE, [Take("m.0"), Free()], house=[("f", 0)], daughter_weds=[0])
        line = Line(custom, [], [("d", 1)])
        self.assertEqual(told(line, 3), [("first", "f.0"), ("mate", 1, ".0"), ("mate", 2, ".0")])
        line = Line(custom, [], [("s", 1), ("d", 1)])
        self.assertEqual(told(line, 5), [("own", 1), ("first", "f.0"), ("own", 3), ("mate", 2, ".0"), ("own", 5)])
        self.assertEqual(self.settling(line), (2, 3, ()))
        # Two house names that change their places in each generation.
        custom = Custom([Take("f.0"), Free()], FREE, house=[("f", 1), ("f", 0)])
        line = Line(custom, [], [("s", 1)])
        self.assertEqual(told(line, 4), [("first", "f.0"), ("first", "f.1"), ("first", "f.0"), ("first", "f.1")])
        self.assertEqual(self.settling(line), (2, 1, (0, 1)))
        # Couple 0 weds by the rules, too.
        custom = Custom([Take("f.0"), Free()], FREE, house=[("f", 0)], son_weds=[0])
        self.assertEqual(told(Line(custom, [], [("s", 1)]), 2), [("first", "m.0"), ("mate", 1, ".0")])
        custom = Custom([Take("f.0"), Free()], FREE, house=[("given", "m")])
        self.assertEqual(told(Line(custom, [], [("s", 1)]), 3), [("first", "f.0"), ("first", "m"), ("mate", 1, "")])

    def test_elders(self):
        custom = Custom([Take("mff"), Take("fmm"), Free()], FREE)
        self.assertEqual(told(Line(custom, [], [("s", 1)]), 2), [("own", 1), ("own", 2)])
        self.assertEqual(told(Line(custom, [], [("s", 1)], elders=True), 2), [("first", "mff"), ("mate", 1, "ff")])
        custom = Custom([Take("fmm"), Free()], FREE)
        self.assertEqual(told(Line(custom, [], [("s", 1)], elders=True), 3), [("first", "fmm"), ("first", "mm"), ("mate", 1, "m")])
        custom = Custom([Take("fff"), Free()], FREE)
        self.assertEqual(told(Line(custom, [], [("s", 1)], elders=True), 4), [("first", "fff"), ("first", "ff"), ("first", "f"), ("first", "fff")])
        self.assertEqual(self.settling(Line(custom, [], [("s", 1)], elders=True)), (3, 1, (0, 1, 2)))
        self.assertEqual(told(Line(custom, [], [("s", 1)]), 5), [("own", 1), ("own", 2), ("first", "f"), ("own", 1), ("own", 2)])

    def test_some_remainders_stay_and_others_do_not(self):
        # Each second son has his father's father's name, each other one a new one.
        custom = Custom([Take("ff", Number(2)), Free()], FREE)
        line = Line(custom, [], [("s", 2), ("s", 1)])
        self.assertEqual(told(line, 6), [("own", 1), ("own", 2), ("own", 1), ("own", 4), ("own", 1), ("own", 6)])
        self.assertEqual(self.settling(line), (2, 1, (1,)))
        line = Line(custom, [("d", 1)], [("s", 2), ("s", 1)])
        self.assertEqual(told(line, 6), [("own", 1), ("own", 2), ("own", 3), ("own", 2), ("own", 5), ("own", 2)])
        self.assertEqual(self.settling(line), (2, 1, (0,)))

    def test_clauses_come_again(self):
        line = Line(ELDEST, [], [("s", 1)])
        self.assertEqual([line.clause_at(n) for n in (1, 2, 3, 10 ** 300)], [2, 0, 0, 0])
        line = Line(ELDEST, [("d", 4)], [("s", 2), ("s", 1), ("d", 3)])
        self.assertEqual([line.clause_at(n) for n in range(1, 9)], [0, 1, 0, 0, 1, 0, 0, 1])
        self.assertEqual([line.clause_at(n) for n in (10 ** 300 - 2, 10 ** 300 - 1, 10 ** 300)], [1, 0, 0])

    def test_unlike(self):
        # The name passes over as soon as the father has his own father's name.
        custom = Custom([Take("f", Unlike("f", "ff")), Free()], FREE)
        line = Line(custom, [], [("s", 1)])
        self.assertEqual(told(line, 6), [("own", 1), ("own", 1), ("own", 3), ("own", 3), ("own", 5), ("own", 5)])
        self.assertEqual(self.settling(line), (2, 1, ()))


class LineTest(Checks):
    def test_attributes(self):
        start, again = [["s", 1], ("d", 4)], [["d", 2]]
        line = Line(PLAIN, start, again)
        start.append(1)
        again[0][0] = "s"
        self.assertEqual((line.custom, line.start, line.again, line.elders), (PLAIN, (("s", 1), ("d", 4)), (("d", 2),), False))
        self.assertEqual((Line(PLAIN, (), again, elders=True).start, Line(PLAIN, (), again, elders=True).elders), ((), True))
        for thing in (line.start, line.start[0], line.again, line.again[0], line.stays):
            self.assertIs(type(thing), tuple)

    def test_step_at(self):
        start = [("s", n) for n in (1, 2, 3, 4, 1, 2)]
        again = [("d", n) for n in (1, 2, 3, 4, 1, 2)]
        line = Line(PLAIN, start, again)
        self.assertEqual([line.step_at(n) for n in range(1, 25)], start + again * 3)
        self.assertEqual(line.step_at(10 ** 300), again[(10 ** 300 - 7) % 6])
        line = Line(PLAIN, [], [("s", 3)])
        self.assertEqual((line.step_at(1), line.step_at(10 ** 299)), (("s", 3), ("s", 3)))
        line = Line(PLAIN, start[:2], again[:3])
        self.assertEqual([line.step_at(n) for n in range(1, 9)], start[:2] + again[:3] * 2)

    def test_generations(self):
        line = Line(ELDEST, [("s", 1)], [("d", 1)])
        for thing in ODD_THINGS + (0, -1, 10 ** 300 + 1, AlwaysEqual()):
            for method in (line.origin_at, line.clause_at, line.step_at):
                self.refused(BadGeneration, (thing,), method, thing)

    def test_wrong_customs(self):
        for thing in ODD_THINGS + (Free(), AlwaysEqual()):
            self.refused(BadLine, (0, "custom"), Line, thing, None, None)
        for clauses in ([Take("f", Dead("f")), Free()], [Take("f"), Take("f", Unborne(), Alive("mmm")), Free()]):
            self.refused(BadLine, (0, "lives"), Line, Custom(clauses, FREE), None, None)
            self.refused(BadLine, (0, "lives"), Line, Custom(FREE, clauses), [], [])

    def test_wrong_steps(self):
        step = ("s", 1)
        for thing in [thing for thing in ODD_THINGS if not isinstance(thing, (tuple, list))] + [[step] * 7, {0: step}, iter([step]), AlwaysEqual()]:
            self.refused(BadLine, (0, "start"), Line, PLAIN, thing, None)
            self.refused(BadLine, (0, "again"), Line, PLAIN, [], thing)
        self.refused(BadLine, (0, "again"), Line, PLAIN, [step], [])
        wrong = ODD_THINGS + (("s",), ("s", 1, 1), ("s", 0), ("s", 5), ("f", 1), (1, "s"), ("s", True), ("s", 1.0), ("s", "1"), ("sd", 1), "s1", {"s": 1, 1: 1},
                              (None, 1), ("s", None), (["s"], 1), (AlwaysEqual(), 1), ("s", AlwaysEqual()), AlwaysEqual())
        for thing in wrong:
            for place in (0, 1, 5):
                steps = [step] * 6
                steps[place] = thing
                self.refused(BadLine, (place, "start step"), Line, PLAIN, steps, [])
                self.refused(BadLine, (place, "again step"), Line, PLAIN, [step], tuple(steps))
        self.refused(BadLine, (1, "start step"), Line, PLAIN, [step, None, None], None)


class ChanceTest(Checks):
    """Against lines gone along plainly."""

    def lines(self, seed, many):
        rng = random.Random(seed)
        for _ in range(many):
            yield chance_line(rng)
        for elders in (False, True):
            for width in (0, 1, 2):
                custom = chance_lifeless(rng, width)
                yield Line(custom, [], chance_steps(rng, 1, 1), elders=elders)
                yield Line(custom, chance_steps(rng, 6, 6), chance_steps(rng, 6, 6), elders=elders)

    def test_origins_and_clauses(self):
        for line in self.lines(801, 150):
            many = line.settled + 3 * line.cycle + 20
            origins, clauses = go_along(line, many)
            self.assertEqual([line.origin_at(n) for n in range(1, many + 1)], origins[1:])
            self.assertEqual([line.clause_at(n) for n in range(1, many + 1)], clauses[1:])

    def test_persons_far_out(self):
        rng = random.Random(802)
        for line in self.lines(803, 100):
            for _ in range(5):
                near = line.settled + rng.randrange(2 * line.cycle)
                far = near + line.cycle * rng.randrange(10 ** 299)
                origin = line.origin_at(near)
                if near % line.cycle not in line.stays:
                    origin = shifted(origin, far - near)
                self.assertEqual(line.origin_at(far), origin)
                self.assertEqual(line.clause_at(far), line.clause_at(far + 12 * 60 * line.cycle * len(line.again)))

    def least_start(self, line, origins, cycle):
        """The least start from which this cycle holds as far as the origins go, and the remainders that stay."""
        stays = {}
        for n in reversed(range(1, len(origins) - cycle)):
            same = origins[n + cycle] == origins[n]
            if not same and origins[n + cycle] != shifted(origins[n], cycle) or stays.setdefault(n % cycle, same) != same:
                return n + 1, stays
        return 1, stays

    def test_cycle_settled_and_stays_are_least(self):
        longest = 0
        for line in self.lines(804, 150):
            origins, _ = go_along(line, line.settled + 6 * line.cycle + 30)
            start, stays = self.least_start(line, origins, line.cycle)
            self.assertEqual(start, line.settled)
            self.assertEqual(line.stays, tuple(sorted(remainder for remainder in stays if stays[remainder])))
            for cycle in range(1, line.cycle):
                # A shorter cycle does not even hold along the last rounds.
                self.assertGreater(self.least_start(line, origins, cycle)[0], line.settled + 2 * line.cycle)
            longest = max(longest, line.cycle)
        self.assertGreater(longest, 5)

    def test_long_cycles(self):
        # Names three generations apart, steps that come again behind five.
        custom = Custom([Take("fff", Number(1)), Take("ff", Number(2)), Free()], FREE)
        line = Line(custom, [], [("s", 1), ("s", 1), ("s", 2), ("s", 1), ("s", 2)], elders=True)
        origins, _ = go_along(line, 200)
        self.assertEqual([line.origin_at(n) for n in range(1, 201)], origins[1:])
        self.assertEqual(self.least_start(line, origins, line.cycle)[0], line.settled)
