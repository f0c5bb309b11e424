"""Customs [2.5] to [2.7]."""

import random

from namesakes.clauses import Alive, Case, Dead, Free, Never, Number, Take, Unborne, Unlike
from namesakes.customs import Custom, Named
from namesakes.errors import BadCustom, BadKind
from tests.checks import Checks
from tests.families import ODD_THINGS, AlwaysEqual, chance_custom

FREE = [Free()]
WIDE = Custom(
    [Take("ff", Number(1)), Take("f.1", Unborne()), Free("living", "m.0")], [Take("mm", Dead("mf")), Free("ever")],
    house=[("f", 1), ("given", "m")], son_weds=["own", 0], daughter_weds=[1, "own"],
)


class BadCustomTest(Checks):
    def test_clauses(self):
        for clauses in ODD_THINGS + ([], (), "abc", {1: Free()}, Free(), FREE * 6, [Take("f")] * 5 + FREE):
            if isinstance(clauses, (list, tuple)) and 1 <= len(clauses) <= 5:
                continue
            self.refused(BadCustom, ("s", 0, "clauses"), Custom, clauses, None)
            self.refused(BadCustom, ("d", 0, "clauses"), Custom, FREE, clauses, house=None)
        self.assertEqual(len(Custom([Take("f")] * 4 + FREE, FREE).sons), 5)

    def test_each_clause(self):
        for thing in ODD_THINGS + (Free, Take, "free", Never(), AlwaysEqual()):
            for index in range(5):
                clauses = [Take("f")] * index + [thing] + [None] * (4 - index)
                self.refused(BadCustom, ("s", index, "clause"), Custom, clauses, None)
                self.refused(BadCustom, ("d", index, "clause"), Custom, FREE, clauses)
        self.refused(BadCustom, ("s", 0, "free"), Custom, [Free(), Free()], None)
        self.refused(BadCustom, ("s", 1, "free"), Custom, [Take("f"), Free(), None], None)
        self.refused(BadCustom, ("d", 1, "free"), Custom, FREE, [Take("f"), Free(), Take("f")])
        self.refused(BadCustom, ("s", 0, "last"), Custom, [Take("f")], None)
        self.refused(BadCustom, ("d", 2, "last"), Custom, FREE, [Take("f")] * 3, house=None)

    def test_houses(self):
        for house in (None, True, 5, "ab", {"f": 0}, [("f", 0)] * 3, {("f", 0)}):
            self.refused(BadCustom, ("house", 0, "houses"), Custom, FREE, FREE, house=house, son_weds=5)

    def test_each_house_rule(self):
        wrong = ODD_THINGS + (
            ("f",), ("f", 0, 0), ("x", 0), ("f", 2), ("f", -1), ("f", True), ("f", False), ("f", "0"), ("f", None), ("f", "f"),
            ("given", 0), ("given", "s"), ("given", "d"), ("given", ["f"]), ("given",), ("ff", 0), (["f"], 0), "f0",
            ("given", AlwaysEqual()), (AlwaysEqual(), 0), ("f", AlwaysEqual()), {"f": 0, "m": 0},
        )
        for rule in wrong:
            self.refused(BadCustom, ("house", 0, "house"), Custom, FREE, FREE, house=[rule, None])
            self.refused(BadCustom, ("house", 1, "house"), Custom, FREE, FREE, house=[("f", 1), rule])
        self.refused(BadCustom, ("house", 0, "house"), Custom, FREE, FREE, house=[("f", 1)])

    def test_house_names_beyond_the_width(self):
        for width in (0, 1, 2):
            house = [("f", 0)] * width
            for place in (0, 1):
                source = f"m.{place}"
                for clauses in ([Take(source), Free()], [Take("f", Unlike(source, "f")), Free()], [Free(source)],
                                [Take("f", Number(1), Unlike("m", source)), Free()], [Free("living", source)]):
                    if place < width:
                        Custom(clauses, clauses, house=house)
                        continue
                    more = [Take("f")] + clauses
                    index = [i for i, clause in enumerate(more) if source in str(clause)][0]
                    self.refused(BadCustom, ("s", index, "width"), Custom, more, more, house=house, son_weds=5)
                    self.refused(BadCustom, ("d", index, "width"), Custom, FREE, more, house=house, son_weds=5)
        self.refused(BadCustom, ("s", 1, "width"), Custom, [Take("f"), Take("f.1"), Free("f.1")], FREE, house=[("f", 0)])

    def test_weddings(self):
        for rules in (True, 0, 5, "own", {"own": 1}, [], (), ["own"] * 3, ["own"], {"own", 0}):
            named = {"house": [("f", 0)] * 2}
            self.refused(BadCustom, ("wedding s", 0, "weddings"), Custom, FREE, FREE, son_weds=rules, daughter_weds=5, **named)
            self.refused(BadCustom, ("wedding d", 0, "weddings"), Custom, FREE, FREE, daughter_weds=rules, **named)
        self.refused(BadCustom, ("wedding s", 0, "weddings"), Custom, FREE, FREE, son_weds=["own"])

    def test_each_wedding_rule(self):
        for rule in (True, False, None, -1, 2, "0", "Own", b"own", ["own"], ("own",), 0.0, AlwaysEqual()):
            named = {"house": [("f", 0)] * 2}
            for index in (0, 1):
                rules = ["own"] * index + [rule] + [None] * (1 - index)
                self.refused(BadCustom, ("wedding s", index, "wedding"), Custom, FREE, FREE, son_weds=rules, daughter_weds=5, **named)
                self.refused(BadCustom, ("wedding d", index, "wedding"), Custom, FREE, FREE, daughter_weds=rules, **named)
        self.refused(BadCustom, ("wedding s", 0, "wedding"), Custom, FREE, FREE, son_weds=[1], house=[("f", 0)])

    def test_the_order_of_the_parts(self):
        beyond = [Take("f.1"), Free()]
        self.refused(BadCustom, ("house", 0, "houses"), Custom, beyond, beyond, house=5, son_weds=5)
        self.refused(BadCustom, ("s", 0, "width"), Custom, beyond, beyond, son_weds=5)
        self.refused(BadCustom, ("s", 0, "last"), Custom, [Take("f")], 5, house=5)
        self.refused(BadCustom, ("s", 0, "clause"), Custom, [None, Free(), Take("f")], FREE)


class CustomTest(Checks):
    def test_attributes(self):
        custom = Custom(FREE, [Take("f"), Free()])
        told = (custom.sons, custom.daughters, custom.house, custom.son_weds, custom.daughter_weds, custom.width)
        self.assertEqual(told, ((Free(),), (Take("f"), Free()), (), (), (), 0))
        told = (WIDE.house, WIDE.son_weds, WIDE.daughter_weds, WIDE.width)
        self.assertEqual(told, ((("f", 1), ("given", "m")), ("own", 0), (1, "own"), 2))
        half = Custom(FREE, FREE, house=[("m", 0)])
        self.assertEqual((half.son_weds, half.daughter_weds), (("own",), ("own",)))

    def test_nothing_is_kept(self):
        sons, house, weds = [Free()], [["f", 0]], ["own"]
        custom = Custom(sons, sons, house=house, son_weds=weds, daughter_weds=weds)
        sons[0] = Take("f")
        house[0][0] = "m"
        weds[0] = 0
        self.assertEqual(custom, Custom(FREE, FREE, house=(("f", 0),)))
        self.assertIs(type(custom.house[0]), tuple)

    def test_equality(self):
        self.assertEqual(Custom(FREE, FREE, house=[("f", 0)]), Custom((Free(),), FREE, house=(["f", 0],), son_weds=["own"]))
        house = [("f", 0)]
        self.unlike_all(
            Custom(FREE, FREE, house=house), Custom(FREE, FREE), Custom(FREE, FREE, house=[("m", 0)]),
            Custom([Free("f")], FREE, house=house), Custom(FREE, [Free("f")], house=house),
            Custom(FREE, FREE, house=house, son_weds=[0]), Custom(FREE, FREE, house=house, daughter_weds=[0]), "custom", None,
        )

    def test_clauses_and_wedding_rules(self):
        self.assertEqual((WIDE.clauses("s"), WIDE.clauses("d")), (WIDE.sons, WIDE.daughters))
        self.assertEqual((WIDE.wedding_rules("s"), WIDE.wedding_rules("d")), (("own", 0), (1, "own")))
        for thing in ODD_THINGS + ("f", "sd", AlwaysEqual()):
            self.refused(BadKind, (thing,), WIDE.clauses, thing)
            self.refused(BadKind, (thing,), WIDE.wedding_rules, thing)
            self.refused(BadKind, (thing,), WIDE.house_at_wedding, thing, (1, 2), (3, 4))

    def test_the_call(self):
        custom = Custom([Take("ff", Dead("ff")), Take("f", Unborne(), Never()), Free("m")], [Free("f")])
        named = custom(Case("s", 1, {"f": 1, "m": 2}, {}))
        self.assertEqual(named, Named(1, "take", 1, ("nobody",)))
        self.assertEqual((named.index, named.manner, named.name, named.passed), (1, "take", 1, ("nobody",)))
        named = custom(Case("s", 1, {"f": 1, "ff": 3}, {"ff": "dead"}))
        self.assertEqual(named, Named(0, "take", 3, ()))
        named = custom(Case("s", 1, {"f": 1, "ff": 3}, {"ff": "alive"}, (), (1,)))
        self.assertEqual(named, Named(2, "free", None, (0, 1)))
        self.assertEqual(custom(Case("d", 1, {"f": 1}, {})), Named(0, "free", None, ()))

    def test_named_equality(self):
        one = Named(1, "take", 1, (0,))
        self.assertEqual(one, Named(1, "take", 1, (0,)))
        self.unlike_all(one, Named(0, "take", 1, (0,)), Named(1, "free", 1, (0,)), Named(1, "take", 2, (0,)),
                        Named(1, "take", 1, (1,)), (1, "take", 1, (0,)), None)

    def test_barred_and_allows(self):
        custom = Custom([Take("f", Number(1)), Free("f", "living")], [Free("m")])
        first, second = Case("s", 1, {"f": 1, "m": 2}, {}), Case("s", 2, {"f": 1, "m": 2}, {}, (5,))
        self.assertEqual([custom.barred(first, name) for name in (1, 2, 5)], [0, None, None])
        self.assertEqual([custom.barred(second, name) for name in (1, 2, 5)], [0, None, 1])
        self.assertEqual([custom.allows(first, name) for name in (1, 2, 5)], [True, False, False])
        self.assertEqual([custom.allows(second, name) for name in (1, 2, 5)], [False, True, False])
        daughter = Case("d", 1, {"f": 1, "m": 2}, {})
        self.assertEqual([custom.allows(daughter, name) for name in (1, 2)], [True, False])
        self.assertEqual(custom.barred(daughter, 2), 0)

    def test_house_names(self):
        self.assertEqual(WIDE.house_at_birth([1, 2], (3, 4), 5, 6), (2, 6))
        rules = [("m", 0), ("given", "f")]
        self.assertEqual(Custom(FREE, FREE, house=rules).house_at_birth((1, 2), (3, 4), 5, 6), (3, 5))
        self.assertEqual(WIDE.house_at_wedding("s", (1, 2), [3, 4]), (1, 3))
        self.assertEqual(WIDE.house_at_wedding("d", [1, 2], (3, 4)), (4, 2))
        self.assertEqual(Custom(FREE, FREE).house_at_birth((), (), 1, 2), ())

    def test_mirrored(self):
        custom = Custom(
            [Take("ff", Number(1), Alive("fm"), Dead("mmf")), Free("living", "m.0", "fmf")],
            [Take("m.1", Unborne(), Never(), Unlike("f.0", "mm")), Free("ever")],
            house=[("f", 1), ("given", "m")], son_weds=["own", 0], daughter_weds=[1, "own"],
        )
        self.assertEqual(custom.mirrored(), Custom(
            [Take("f.1", Unborne(), Never(), Unlike("m.0", "ff")), Free("ever")],
            [Take("mm", Number(1), Alive("mf"), Dead("ffm")), Free("living", "f.0", "mfm")],
            house=[("m", 1), ("given", "f")], son_weds=[1, "own"], daughter_weds=["own", 0],
        ))
        rng = random.Random(6)
        for _ in range(50):
            custom = chance_custom(rng, longest=3)
            self.assertEqual(custom.mirrored().mirrored(), custom)

    def test_text(self):
        self.assertEqual(str(Custom(FREE, [Take("f", Number(1)), Free("ever")])),
                         "custom\nsons\nfree\ndaughters\ntake f if number 1\nfree not ever")
        self.assertEqual(str(WIDE), (
            "custom\nsons\ntake ff if number 1\ntake f.1 if unborne\nfree not living, m.0\ndaughters\n"
            "take mm if dead mf\nfree not ever\nhouse f 1, given m\nsons wed own, 0\ndaughters wed 1, own"
        ))
        self.assertEqual(str(Custom(FREE, FREE, house=[("m", 0)])),
                         "custom\nsons\nfree\ndaughters\nfree\nhouse m 0\nsons wed own\ndaughters wed own")
