"""Two lines of one plan, and mirrored lines [8.7]."""

import random

from namesakes.clauses import Free, Number, Take, Unborne, Unlike
from namesakes.customs import Custom
from namesakes.errors import UnlikePlans
from namesakes.linepairs import agreed_from, mirrored_line, parted_at
from namesakes.lines import Line
from tests.checks import Checks
from tests.plainlines import chance_lifeless, chance_steps, go_along

FREE = [Free()]
PLAIN = Custom(FREE, FREE)
FATHERS = Custom([Take("f"), Free()], FREE)
GRANDFATHERS = Custom([Take("ff"), Free()], FREE)


class PairTest(Checks):
    def told(self, one, other, start, again, elders=False):
        """(parted_at, agreed_from) both ways, which must be the same."""
        lines = [Line(custom, start, again, elders=elders) for custom in (one, other)]
        found = (parted_at(*lines), agreed_from(*lines))
        self.assertEqual((parted_at(*reversed(lines)), agreed_from(*reversed(lines))), found)
        return found

    def test_alike_for_ever(self):
        self.assertEqual(self.told(PLAIN, PLAIN, [], [("s", 1)]), (None, 1))
        self.assertEqual(self.told(FATHERS, PLAIN, [], [("d", 3)]), (None, 1))
        self.assertEqual(self.told(FATHERS, Custom([Take("f", Number(2)), Free()], FREE), [("d", 1)], [("s", 2)]), (None, 1))

    def test_parted_for_ever(self):
        self.assertEqual(self.told(FATHERS, PLAIN, [], [("s", 1)]), (1, None))
        self.assertEqual(self.told(FATHERS, PLAIN, [("d", 1)] * 4, [("s", 1)]), (5, None))
        self.assertEqual(self.told(FATHERS, PLAIN, [], [("d", 1), ("d", 1), ("s", 1)]), (3, None))
        self.assertEqual(self.told(FATHERS, GRANDFATHERS, [], [("s", 1)]), (1, None))

    def test_a_name_that_stays_in_one_line_alone(self):
        # Person 2 of both lines is named freely; in the one line all sons behind it have that name.
        stays = Custom([Take("f", Unlike("f", "m"), Number(1)), Free()], FREE)
        later = Custom([Take("f", Number(1), Unlike("ff", "m")), Free()], FREE)
        self.assertEqual([Line(later, [], [("s", 1)]).origin_at(n) for n in (1, 2, 3)], [("own", 1), ("own", 1), ("own", 1)])
        self.assertEqual(self.told(later, PLAIN, [], [("s", 1)]), (2, None))
        self.assertEqual(self.told(stays, later, [], [("s", 1)]), (1, None))
        # Alike all along the first round behind which both are settled, and then not.
        custom = Custom([Take("mmf"), Take("mm", Unborne(), Number(2)), Free()], FREE)
        start, again = [("d", 4), ("s", 3)], [("s", 2), ("d", 1), ("d", 4)]
        self.assertEqual(max(Line(told, start, again).settled for told in (custom, PLAIN)), 1)
        self.assertEqual(self.told(custom, PLAIN, start, again), (6, None))

    def test_parted_and_agreeing_again(self):
        self.assertEqual(self.told(FATHERS, PLAIN, [("s", 1)], [("d", 1)]), (1, 2))
        self.assertEqual(self.told(FATHERS, PLAIN, [("d", 1), ("s", 1), ("s", 2), ("d", 1), ("s", 1), ("d", 1)], [("d", 1)]), (2, 6))
        # A name that differs can come down later still.
        late = Custom([Take("f"), Free()], [Take("ff"), Free()])
        self.assertEqual(self.told(late, Custom(FREE, [Take("ff"), Free()]), [("s", 1), ("d", 1), ("d", 2)], [("d", 1)]), (1, 2))
        self.assertEqual(self.told(late, Custom(FREE, [Take("ff"), Free()]), [("s", 1), ("s", 1), ("d", 1)], [("d", 1)]), (1, 4))

    def test_other_elders(self):
        self.assertEqual(self.told(GRANDFATHERS, PLAIN, [("s", 1)], [("d", 1)]), (None, 1))
        self.assertEqual(self.told(GRANDFATHERS, PLAIN, [("s", 1)], [("d", 1)], elders=True), (1, 2))

    def test_unlike_widths(self):
        housed = Custom([Take("f.0"), Free()], FREE, house=[("given", "f")])
        two = Custom([Take("f.1"), Free()], FREE, house=[("f", 1), ("given", "f")])
        self.assertEqual(self.told(housed, GRANDFATHERS, [("s", 1)], [("s", 1)]), (1, None))
        self.assertEqual(self.told(housed, GRANDFATHERS, [("s", 1)], [("d", 1)]), (1, 2))
        self.assertEqual(self.told(housed, two, [], [("s", 1)]), (1, None))
        self.assertEqual(self.told(housed, PLAIN, [], [("d", 2)]), (None, 1))

    def test_unlike_plans(self):
        line = Line(FATHERS, [("s", 1)], [("d", 1)])
        for other in (Line(FATHERS, [], [("d", 1)]), Line(FATHERS, [("s", 2)], [("d", 1)]), Line(FATHERS, [("s", 1)], [("d", 2)]), Line(FATHERS, [("s", 1)], [("d", 1)], elders=True),
                      Line(FATHERS, [("s", 1), ("d", 1)], [("d", 1)]), Line(FATHERS, [("s", 1)], [("d", 1), ("d", 1)])):
            for ask in (parted_at, agreed_from):
                self.refused(UnlikePlans, (), ask, line, other)
                self.refused(UnlikePlans, (), ask, other, line)

    def test_by_chance(self):
        rng = random.Random(870)
        told = {"alike": 0, "again": 0, "never": 0}
        for _ in range(150):
            start, again, elders = chance_steps(rng, 0, 6), chance_steps(rng, 1, 6), rng.random() < 0.5
            one = chance_lifeless(rng, most=2)
            other = chance_lifeless(rng, rng.randint(0, 2), most=2)
            if rng.random() < 0.7:
                daughters = other.daughters if other.width == one.width else FREE
                other = Custom(one.sons, daughters, house=one.house, son_weds=one.son_weds, daughter_weds=one.daughter_weds)
            lines = [Line(custom, start, again, elders=elders) for custom in (one, other)]
            many = max(line.settled for line in lines) + 4 * lines[0].cycle * lines[1].cycle + 20
            first, second = [go_along(line, many)[0] for line in lines]
            unlike = [n for n in range(1, many + 1) if first[n] != second[n]]
            parted, agreed = self.told(one, other, start, again, elders)
            self.assertEqual(parted, unlike[0] if unlike else None)
            late = many - 2 * lines[0].cycle * lines[1].cycle
            if any(n > late for n in unlike):
                self.assertIsNone(agreed)
                told["never"] += 1
            else:
                self.assertEqual(agreed, unlike[-1] + 1 if unlike else 1)
                told["again" if unlike else "alike"] += 1
        self.assertGreater(min(told.values()), 10)


class MirrorTest(Checks):
    def mirrored_origin(self, origin):
        turned = {"f": "m", "m": "f"}
        return (*origin[:-1], "".join(turned.get(letter, letter) for letter in origin[-1])) if isinstance(origin[-1], str) else origin

    def test_mirrored(self):
        rng = random.Random(871)
        for _ in range(60):
            line = Line(chance_lifeless(rng), chance_steps(rng, 0, 6), chance_steps(rng, 1, 6), elders=rng.random() < 0.5)
            back = mirrored_line(line)
            self.assertEqual((back.custom, back.elders), (line.custom.mirrored(), line.elders))
            turned = {"s": "d", "d": "s"}
            self.assertEqual((back.start, back.again), tuple(tuple((turned[kind], number) for kind, number in steps) for steps in (line.start, line.again)))
            self.assertEqual((back.cycle, back.settled, back.stays), (line.cycle, line.settled, line.stays))
            for n in range(1, line.settled + line.cycle + 3):
                self.assertEqual(back.origin_at(n), self.mirrored_origin(line.origin_at(n)))
                self.assertEqual(back.clause_at(n), line.clause_at(n))
            again = mirrored_line(back)
            self.assertEqual((again.custom, again.start, again.again), (line.custom, line.start, line.again))
