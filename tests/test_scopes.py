"""Scopes [5.1]."""

from namesakes.clauses import Dead, Free, Never, Number, Take
from namesakes.customs import Custom
from namesakes.errors import BadKind, BadScope, TooWide
from namesakes.reads import reads_of
from namesakes.scopes import Scope
from tests.checks import Checks
from tests.families import ODD_THINGS, AlwaysEqual

PLAIN = Custom([Free()], [Free()])
ONE = Custom([Free()], [Free()], house=[("f", 0)])
TWO = Custom([Free()], [Free()], house=[("f", 0), ("m", 1)])
SONS = Custom([Take("ff", Number(1), Dead("ff")), Free()], [Free()])


class ScopeTest(Checks):
    def test_attributes(self):
        scope = Scope(SONS)
        told = (scope.customs, scope.also, scope.tracked, scope.houses, scope.followed, scope.reads, scope.width)
        self.assertEqual(told, ((SONS,), (), (), False, False, reads_of(SONS), 0))
        scope = Scope(TWO, TWO, also=["f", "mm"], tracked=["f.1"], houses=False, followed=True)
        told = (scope.customs, scope.also, scope.tracked, scope.houses, scope.followed, scope.width)
        self.assertEqual(told, ((TWO, TWO), ("f", "mm"), ("f.1",), False, True, 2))
        self.assertEqual(scope.reads, reads_of(TWO, names=["f", "mm"], lives=["f", "mm"], tracked=["f.1"]))
        self.assertEqual(Scope(ONE, houses=True).reads, reads_of(ONE, houses=True))

    def test_what_is_read(self):
        scope = Scope(SONS, also=("m", "mf"))
        self.assertEqual([scope.places(kind) for kind in "sd"], [("", "f"), ("", "f")])
        self.assertEqual([scope.life_ways(kind) for kind in "sd"], [("f",), ("f",)])
        self.assertEqual([scope.asks_number(kind) for kind in "sd"], [True, False])
        self.assertEqual(Scope(ONE, houses=True).places("d"), (".0",))
        for thing in ODD_THINGS + ("f",):
            self.refused(BadKind, (thing,), scope.places, thing)
            self.refused(BadKind, (thing,), scope.life_ways, thing)

    def test_the_four_methods(self):
        scope = Scope(SONS, PLAIN)
        self.assertIs(scope.custom_for(None, "s"), SONS)
        self.assertIs(scope.wedding_custom("d", 0), SONS)
        self.assertEqual((scope.first_marks("s"), scope.first_marks("d")), ((0,), (0,)))
        self.assertEqual((scope.child_mark(None, "s"), scope.child_mark(None, "d")), (0, 0))

    def test_customs(self):
        wrong = {"also": None, "tracked": None}
        self.refused(BadScope, ("customs",), Scope, **wrong)
        for thing in ODD_THINGS + (Custom, [PLAIN], AlwaysEqual()):
            self.refused(BadScope, ("customs",), Scope, thing, **wrong)
            self.refused(BadScope, ("customs",), Scope, PLAIN, ONE, thing, **wrong)
        for customs in ((PLAIN, ONE), (ONE, PLAIN), (TWO, TWO, ONE)):
            self.refused(BadScope, ("width",), Scope, *customs, **wrong)

    def test_also(self):
        for also in (None, True, "f", {"f": 1}, {"f"}, [""], ["f", "ffff"], ["f.0"], ["x"], [None], [["f"]], [AlwaysEqual()]):
            self.refused(BadScope, ("also",), Scope, TWO, also=also, tracked=None)
        self.assertEqual(Scope(PLAIN, also=["f"]).also, ("f",))

    def test_tracked(self):
        for tracked in (None, True, "f", {"f": 1}, {"f"}, [""], ["ffff"], ["f.2"], ["f", "living"], [None], [["f"]], [AlwaysEqual()]):
            self.refused(BadScope, ("tracked",), Scope, TWO, tracked=tracked)
        for source, width in (("f.0", 1), ("m.0", 1), ("f.1", 2), ("m.1", 2)):
            for index, custom in enumerate((PLAIN, ONE, TWO)):
                if index < width:
                    self.refused(BadScope, ("tracked",), Scope, custom, also=["f", "ff", "fm"], tracked=["f", source])
                else:
                    self.assertEqual(Scope(custom, tracked=[source]).tracked, (source,))

    def test_too_wide(self):
        self.refused(TooWide, ("names",), Scope, PLAIN, also=["f", "ff", "fm", "fff"])
        lives = Custom([Take("f", Dead("fff"), Dead("ffm")), Free()], [Free()])
        self.refused(TooWide, ("lives",), Scope, lives)
        self.refused(TooWide, ("tracked",), Scope, PLAIN, tracked=["f", "m", "ff"])
        never = Custom([Take("f", Never()), Take("m", Never()), Free()], [Free()])
        self.refused(TooWide, ("tracked",), Scope, never, tracked=["ff"])
        self.refused(BadScope, ("tracked",), Scope, PLAIN, also=["f", "ff", "fm", "fff"], tracked=["f.0"])

    def test_equality(self):
        self.assertEqual(Scope(SONS, also=["f"], tracked=["m"]), Scope(SONS, also=("f",), tracked=("m",)))
        scope = Scope(ONE)
        self.unlike_all(scope, Scope(ONE, ONE), Scope(ONE, also=["f"]), Scope(ONE, tracked=["f"]), Scope(ONE, houses=True),
                        Scope(ONE, followed=True), Scope(Custom([Free("f")], [Free()], house=[("f", 0)])), None, ONE)

        class Other(Scope):
            pass

        self.unlike_all(Other(ONE), scope)
        self.unlike_all(scope, Other(ONE))
        self.assertEqual(Other(ONE), Other(ONE))

    def test_nothing_is_kept(self):
        also, tracked = ["f"], ["m"]
        scope = Scope(PLAIN, also=also, tracked=tracked)
        also.append("m")
        tracked.append("f")
        self.assertEqual(scope, Scope(PLAIN, also=["f"], tracked=["m"]))
