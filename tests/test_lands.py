"""Lands of two customs, and the names in them [9.8], [9.9]."""

import random

from namesakes.alikes import namesakes_among
from namesakes.clauses import Dead, Free, Number, Take, Unborne
from namesakes.customs import Custom
from namesakes.errors import BadChoice, BadLand, BadSecond, BadWidth, NoPerson
from namesakes.lands import Land, LandNaming
from namesakes.moved import mirror_record
from namesakes.naming import Naming
from namesakes.records import Record
from tests.checks import Checks
from tests.families import ODD_THINGS, AlwaysEqual, chance_record
from tests.twos import DECIDES, PlainLand, chance_pair, kept_record, plain_namesakes

FREE = [Free()]
PLAIN = Custom(FREE, FREE)
FATHERS = Custom([Take("f"), Free()], [Take("f"), Free()])
ROWS = [("comes", "a", "s", 1, ()), ("comes", "b", "d", 2, ()), ("weds", "a", "b"), ("born", "a", "b", "s", "c", 3), ("born", "a", "b", "d", "e", 4)]


class LandTest(Checks):
    def test_attributes(self):
        self.assertEqual((Land.FATHER, Land.MOTHER, Land.CHILD), DECIDES)
        for decides in DECIDES:
            land = Land(PLAIN, FATHERS, decides)
            self.assertEqual((land.customs, land.decides), ((PLAIN, FATHERS), decides))
            self.assertIs(type(land.customs), tuple)

    def test_equality(self):
        land = Land(PLAIN, FATHERS, Land.CHILD)
        self.assertEqual(land, Land(Custom(FREE, FREE), FATHERS, "child"))
        self.unlike_all(land, Land(FATHERS, PLAIN, Land.CHILD), Land(PLAIN, FATHERS, Land.FATHER), Land(PLAIN, PLAIN, Land.CHILD), PLAIN, None, (PLAIN, FATHERS))

    def test_words(self):
        housed = Custom(FREE, FREE, house=[("f", 0)])
        for thing in ODD_THINGS + (Free(), AlwaysEqual()):
            self.refused(BadLand, ("custom",), Land, thing, PLAIN, None)
            self.refused(BadLand, ("custom",), Land, housed, thing, None)
        self.refused(BadLand, ("house",), Land, PLAIN, housed, None)
        self.refused(BadLand, ("house",), Land, housed, Custom(FREE, FREE, house=[("f", 0)], son_weds=[0]), "father")
        self.refused(BadLand, ("house",), Land, housed, Custom(FREE, FREE, house=[("f", 0)], daughter_weds=[0]), "father")
        self.refused(BadLand, ("house",), Land, housed, Custom(FREE, FREE, house=[("m", 0)]), "father")
        for thing in ODD_THINGS + ("f", "Father", "son", 0, 1, AlwaysEqual()):
            self.refused(BadLand, ("decides",), Land, PLAIN, FATHERS, thing)

    def test_mirrored(self):
        for decides, back in zip(DECIDES, ("mother", "father", "child")):
            land = Land(FATHERS, PLAIN, decides)
            self.assertEqual(land.mirrored(), Land(FATHERS.mirrored(), PLAIN, back))
            self.assertEqual(land.mirrored().mirrored(), land)


class NamingTest(Checks):
    def test_the_document(self):
        strict = Custom([Take("ff", Number(1)), Free("ff", "ever")], [Free("ff", "ever")])
        land = Land(strict, strict.mirrored(), Land.CHILD)
        rows = ROWS[:4] + [("comes", "e", "d", 4, ()), ("weds", "c", "e"), ("born", "c", "e", "d", "g", 1), ("born", "c", "e", "s", "h", 9)]
        naming = LandNaming(land, Record(0, rows), ("e",))
        self.assertEqual((naming.side_of("g"), naming.given_of("g"), naming.given_of("h"), namesakes_among(naming)), (1, 1, 1, (("g", "h"),)))

    def test_sides(self):
        record = Record(0, ROWS)
        for decides, second, sides in (("father", (), "0000"), ("father", ("a",), "1011"), ("father", ("b",), "0100"), ("mother", ("a",), "1000"), ("mother", ["b"], "0111"),
                                       ("child", ("a",), "1010"), ("child", ("b",), "0101"), ("child", ("b", "a"), "1111"), ("mother", ("a", "b"), "1111")):
            naming = LandNaming(Land(PLAIN, FATHERS, decides), record, second)
            self.assertEqual("".join(str(naming.side_of(label)) for label in "abce"), sides)
            given = [naming.given_of(label) for label in "ce"]
            self.assertEqual(given, [1 if side == "1" else choice for side, choice in zip(sides[2:], (3, 4))])
            self.assertEqual([naming.clause_of(label) for label in "abce"], [None, None, 0, 0])
            self.assertEqual((naming.record, naming.second, naming.land), (record, tuple(second), Land(PLAIN, FATHERS, decides)))

    def test_sides_last_for_ever(self):
        rows = ROWS + [("dies", "b"), ("comes", "g", "d", 5, ()), ("weds", "a", "g"), ("born", "a", "g", "s", "h", 6), ("comes", "k", "s", 7, ()), ("weds", "k", "e"),
                       ("born", "k", "e", "d", "l", 8), ("born", "k", "e", "s", "n", 9)]
        naming = LandNaming(Land(PLAIN, FATHERS, "mother"), Record(0, rows), ("b",))
        self.assertEqual("".join(str(naming.side_of(label)) for label in "abceghkln"), "011100011")
        self.assertEqual([naming.given_of(label) for label in "cehln"], [1, 1, 6, 7, 7])
        naming = LandNaming(Land(PLAIN, FATHERS, "child"), Record(0, rows), ("b", "k"))
        self.assertEqual("".join(str(naming.side_of(label)) for label in "abceghkln"), "010100111")

    def test_errors(self):
        land = Land(Custom([Free("f")], FREE), Custom([Free("m")], [Free("m")]), "father")
        record = Record(0, ROWS)
        housed = Record(1, [("comes", "a", "s", 1, (2,))])
        self.refused(BadWidth, (1,), LandNaming, land, housed, None)
        for thing in [thing for thing in ODD_THINGS if not isinstance(thing, (list, tuple))] + ["ab", {"a": 1}, AlwaysEqual()]:
            self.refused(BadSecond, (0, "second"), LandNaming, land, record, thing)
        for thing in ODD_THINGS + ("c", "x", ["a"], AlwaysEqual()):
            self.refused(BadSecond, (0, "label"), LandNaming, land, record, [thing])
            self.refused(BadSecond, (2, "label"), LandNaming, land, record, ("a", "b", thing, thing))
        self.refused(BadSecond, (1, "double"), LandNaming, land, record, ("a", "a", "x"))
        self.refused(BadSecond, (2, "double"), LandNaming, land, record, ["a", "b", "a"])
        self.refused(BadSecond, (1, "label"), LandNaming, land, record, ("a", "e", "a"))
        rows = ROWS[:3] + [("born", "a", "b", "s", "c", 1), ("born", "a", "b", "d", "e", 2)]
        self.refused(BadChoice, ("c", 1, 0), LandNaming, land, Record(0, rows))
        self.refused(BadChoice, ("e", 2, 0), LandNaming, land, Record(0, rows), ("a",))
        self.refused(BadSecond, (0, "label"), LandNaming, land, Record(0, rows), ("c",))
        naming = LandNaming(land, record)
        for thing in ODD_THINGS + ("x", AlwaysEqual()):
            for method in (naming.side_of, naming.given_of, naming.clause_of):
                self.refused(NoPerson, (thing,), method, thing)

    def test_founders_of_long_records(self):
        rows = [("comes", "".join(chr(97 + n // 26 ** at % 26) for at in range(3)), "s", n, ()) for n in range(5000)]
        record = Record(0, rows)
        naming = LandNaming(Land(PLAIN, FATHERS, "father"), record, record.founders)
        self.assertEqual({naming.side_of(label) for label in record.founders}, {1})


class ChanceTest(Checks):
    def test_against_rows_gone_through_plainly(self):
        rng = random.Random(905)
        for _ in range(120):
            customs = chance_pair(rng)
            decides = rng.choice(DECIDES)
            record, second = kept_record(rng, customs, decides, rng.randint(5, 25))
            land = Land(*customs, decides)
            naming = LandNaming(land, record, second)
            plain = PlainLand(customs, decides, second, record.width)
            for row in record:
                plain.say(row)
            for label in record.persons:
                self.assertEqual((naming.side_of(label), naming.given_of(label)), (plain.sides[label], plain.given(label)))
                self.assertEqual(naming.clause_of(label), plain.family.told[label][3])
            self.assertEqual(namesakes_among(naming), plain_namesakes(record, plain.given))
            # The mirrored land names the mirrored record alike.
            back = LandNaming(land.mirrored(), mirror_record(record), second)
            self.assertEqual([(back.side_of(label), back.given_of(label)) for label in record.persons], [(naming.side_of(label), naming.given_of(label)) for label in record.persons])

    def test_lands_that_name_as_one_custom_does(self):
        rng = random.Random(906)
        for _ in range(60):
            one, other = chance_pair(rng)
            for custom, second in ((one, ()), (other, None)):
                record = chance_record(rng, custom, 20)
                naming = Naming(custom, record)
                land = LandNaming(Land(one, other, rng.choice(DECIDES)), record, record.founders if second is None else second)
                self.assertTrue(all(land.given_of(label) == naming.given_of(label) for label in naming))
                self.assertTrue(all(land.clause_of(label) == naming.clause_of(label) for label in naming))
                # A land of one custom twice does so with any founders on side 1.
                some = tuple(label for label in record.founders if rng.random() < 0.5)
                land = LandNaming(Land(custom, custom, rng.choice(DECIDES)), record, some)
                self.assertTrue(all(land.given_of(label) == naming.given_of(label) for label in naming))
                self.assertEqual(namesakes_among(land), namesakes_among(naming))

    def test_conditions_ask_what_all_rows_say(self):
        # The second custom asks for names that the first one gave.
        land = Land(FATHERS, Custom([Take("ff", Unborne(), Dead("ff")), Free("living")], FREE), "mother")
        rows = ROWS[:4] + [("comes", "k", "d", 5, ()), ("weds", "c", "k"), ("dies", "a"), ("born", "c", "k", "s", "l", 6), ("born", "c", "k", "s", "n", 7)]
        naming = LandNaming(land, Record(0, rows), ("k",))
        self.assertEqual([naming.given_of(label) for label in "cln"], [1, 1, 7])
        self.refused(BadChoice, ("n", 1, 0), LandNaming, land, Record(0, rows[:-1] + [("born", "c", "k", "s", "n", 1)]), ("k",))
