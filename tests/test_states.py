"""States [5.2], [5.3]."""

from namesakes.errors import BadState
from namesakes.states import CoupleState, PersonState
from tests.checks import Checks
from tests.families import ODD_THINGS, AlwaysEqual

NO_SEQUENCES = (None, True, 5, "ab", {0: 1}, {0}, iter([]))
NO_NAMES = NO_SEQUENCES + ((1,), (True,), (0, 2), ("0",), (0, -1), (0.0,), (None, 1), tuple(range(41)), (AlwaysEqual(),))
NO_LIVES = NO_SEQUENCES + (("Alive",), ("",), (True,), (0,), ("alive", "s"), ([],), (AlwaysEqual(),), "alive", ("dead", b"dead"))
NO_MARKS = (True, False, None, -1, 1001, "0", 0.0, (), AlwaysEqual())


class PersonStateTest(Checks):
    def test_attributes(self):
        state = PersonState("s", [0, None, 1], ["alive", None, "dead"], 1000)
        self.assertEqual((state.kind, state.names, state.lives, state.mark), ("s", (0, None, 1), ("alive", None, "dead"), 1000))
        state = PersonState("d", (), ())
        self.assertEqual((state.kind, state.names, state.lives, state.mark), ("d", (), (), 0))
        self.assertIs(type(PersonState("d", [], []).names), tuple)
        self.assertEqual(PersonState("s", tuple(range(40)), ()).names, tuple(range(40)))

    def test_wrong_ones_in_order(self):
        for kind in ODD_THINGS + ("f", "sd", AlwaysEqual()):
            self.refused(BadState, ("kind",), PersonState, kind, None, None, None)
        for names in NO_NAMES:
            self.refused(BadState, ("names",), PersonState, "s", names, None, None)
        for lives in NO_LIVES:
            self.refused(BadState, ("lives",), PersonState, "s", (0,), lives, None)
        for mark in NO_MARKS:
            self.refused(BadState, ("marks",), PersonState, "s", (0,), ("alive",), mark)

    def test_equality(self):
        state = PersonState("s", (0,), ("alive",), 1)
        self.assertEqual(state, PersonState("s", [0], ["alive"], 1))
        self.unlike_all(state, PersonState("d", (0,), ("alive",), 1), PersonState("s", (None,), ("alive",), 1),
                        PersonState("s", (0,), ("dead",), 1), PersonState("s", (0,), ("alive",)), ("s", (0,), ("alive",), 1), None)
        self.unlike_all(PersonState("s", (), ()), CoupleState((), (), 0, 0, ()))

    def test_nothing_is_kept(self):
        names, lives = [0], ["alive"]
        state = PersonState("s", names, lives)
        names[0], lives[0] = None, "dead"
        self.assertEqual(state, PersonState("s", (0,), ("alive",)))


class CoupleStateTest(Checks):
    def test_attributes(self):
        state = CoupleState([0, None, 1, 0], [None, "dead"], 3, 1, [[0, 2], (2, 0)], [5, 1000])
        told = (state.names, state.lives, state.sons, state.daughters, state.borne, state.marks, state.classes, state.is_new)
        self.assertEqual(told, ((0, None, 1, 0), (None, "dead"), 3, 1, ((0, 2), (2, 0)), (5, 1000), 2, False))
        state = CoupleState((), (), 0, 0, ())
        told = (state.names, state.lives, state.sons, state.daughters, state.borne, state.marks, state.classes, state.is_new)
        self.assertEqual(told, ((), (), 0, 0, (), (0, 0), 0, True))

    def test_is_new(self):
        for sons, daughters, borne, new in ((0, 0, (), True), (0, 0, ((0, 0), (1, 0)), True), (1, 0, (), False),
                                            (0, 1, (), False), (0, 0, ((0, 0), (1, 1)), False), (0, 0, ((0, 2),), False)):
            self.assertIs(CoupleState((0, 1), (), sons, daughters, borne).is_new, new)

    def test_wrong_ones_in_order(self):
        for names in NO_NAMES:
            self.refused(BadState, ("names",), CoupleState, names, None, None, None, None, None)
        for lives in NO_LIVES:
            self.refused(BadState, ("lives",), CoupleState, (0,), lives, None, None, None, None)
        for number in (True, False, None, -1, 4, "0", 0.0, AlwaysEqual()):
            self.refused(BadState, ("numbers",), CoupleState, (0,), (), number, 0, None, None)
            self.refused(BadState, ("numbers",), CoupleState, (0,), (), 0, number, None, None)
        for borne in NO_SEQUENCES + ((0,), ((0,),), ((0, 0, 0),), ("00",), ({0: 0, 1: 1},), ((2, 0),), ((-1, 0),), ((0, 3),),
                                     ((0, -1),), ((True, 0),), ((False, 0),), ((0, True),), ((None, 0),), ((0, None),),
                                     ((0, 0), (0, 0)), ((1, 0), (0, 0)), ((0, 0), (1, 0), (1, 1)), (("0", 0),), (None,),
                                     ((AlwaysEqual(), 0),), ((0, AlwaysEqual()),)):
            self.refused(BadState, ("borne",), CoupleState, (0,), (), 0, 0, borne, None)
        for marks in NO_SEQUENCES + ((), (0,), (0, 0, 0), "00"):
            self.refused(BadState, ("marks",), CoupleState, (0,), (), 0, 0, (), marks)
        for mark in NO_MARKS:
            self.refused(BadState, ("marks",), CoupleState, (0,), (), 0, 0, (), (mark, 0))
            self.refused(BadState, ("marks",), CoupleState, (0,), (), 0, 0, (), (0, mark))

    def test_the_bounds(self):
        self.assertEqual(CoupleState((0,), (), 0, 3, ((0, 1), (1, 2))).borne, ((0, 1), (1, 2)))
        self.assertEqual(CoupleState((), (), 3, 0, ((0, 2),), (0, 1000)).borne, ((0, 2),))

    def test_mark_of(self):
        state = CoupleState((0, 1, 2), (), 0, 0, ((0, 2), (2, 0), (3, 1)))
        self.assertEqual([state.mark_of(number) for number in range(5)], [2, None, 0, 1, None])

    def test_equality(self):
        state = CoupleState((0,), ("dead",), 1, 2, ((0, 1),), (1, 2))
        self.assertEqual(state, CoupleState([0], ["dead"], 1, 2, [[0, 1]], [1, 2]))
        self.unlike_all(
            state, CoupleState((None,), ("dead",), 1, 2, ((0, 1),), (1, 2)), CoupleState((0,), ("alive",), 1, 2, ((0, 1),), (1, 2)),
            CoupleState((0,), ("dead",), 0, 2, ((0, 1),), (1, 2)), CoupleState((0,), ("dead",), 1, 1, ((0, 1),), (1, 2)),
            CoupleState((0,), ("dead",), 1, 2, ((0, 2),), (1, 2)), CoupleState((0,), ("dead",), 1, 2, ((0, 1),), (2, 1)), None, (0,),
        )

    def test_nothing_is_kept(self):
        names, lives, pair, marks = [0], ["dead"], [0, 1], [1, 1]
        state = CoupleState(names, lives, 0, 0, [pair], marks)
        names[0], lives[0], pair[1], marks[0] = None, None, 2, 0
        self.assertEqual(state, CoupleState((0,), ("dead",), 0, 0, ((0, 1),), (1, 1)))
