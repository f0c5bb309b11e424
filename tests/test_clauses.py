"""Cases, conditions and clauses [2.1] to [2.4]."""

from namesakes.clauses import Alive, Case, Condition, Dead, Free, Never, Number, Take, Unborne, Unlike
from namesakes.errors import BadClause, BadCondition
from namesakes.records import WAYS
from tests.checks import Checks
from tests.families import ODD_THINGS, AlwaysEqual

SOURCES = WAYS[1:] + ("f.0", "f.1", "m.0", "m.1")
NO_SOURCES = ODD_THINGS + ("ffff", "f.2", "f.", "x", "f.0 ", "living", "ever", ".0", ["f"], ("f",), b"f", AlwaysEqual())


def case(number=1, borne=(), ever=(), kind="s", lives=None, **names):
    return Case(kind, number, {name.replace("_", "."): worth for name, worth in names.items()}, lives or {}, borne, ever)


class CaseTest(Checks):
    def test_attributes(self):
        made = Case("s", 2, {"f": 1, "ff": None}, {"f": "alive"}, [1, 2], [1, 2, 3])
        told = (made.kind, made.number, made.names, made.lives, made.borne, made.ever)
        self.assertEqual(told, ("s", 2, {"f": 1, "ff": None}, {"f": "alive"}, (1, 2), (1, 2, 3)))
        plain = Case("d", 1, {}, {})
        self.assertEqual((plain.borne, plain.ever), ((), ()))

    def test_nothing_is_kept_or_checked(self):
        names, lives, borne, ever = {"f": 1}, {"f": "dead"}, [1], [1]
        made = Case(None, -5, names, lives, borne, ever)
        names["f"], lives["f"] = 2, "alive"
        borne.append(2)
        ever.append(2)
        self.assertEqual((made.kind, made.number, made.names, made.lives), (None, -5, {"f": 1}, {"f": "dead"}))
        self.assertEqual((made.borne, made.ever), ((1,), (1,)))


class ConditionTest(Checks):
    def test_number(self):
        for n in (1, 2, 3, 4):
            held = [number for number in range(1, 9) if Number(n).holds(case(number), "f")]
            self.assertEqual(held, [n] if n < 4 else [4, 5, 6, 7, 8])
            self.assertEqual((Number(n).n, str(Number(n))), (n, f"number {n}"))
        for thing in ODD_THINGS + (0, 5, -1, AlwaysEqual()):
            self.refused(BadCondition, ("number",), Number, thing)

    def test_lives(self):
        lives = {"f": "alive", "ff": "dead", "m": None}
        for condition, life in ((Alive, "alive"), (Dead, "dead")):
            for way in WAYS[1:]:
                self.assertIs(bool(condition(way).holds(case(lives=lives), "mm")), lives.get(way) == life)
                self.assertEqual((condition(way).way, str(condition(way))), (way, f"{condition.__name__.lower()} {way}"))
            for thing in ODD_THINGS + ("ffff", "f.0", "x", ["f"], AlwaysEqual()):
                self.refused(BadCondition, ("way",), condition, thing)

    def test_unborne_and_never(self):
        told = case(borne=(1, 2), ever=(1, 2, 3), f=1, m=3, ff=4)
        self.assertEqual([Unborne().holds(told, source) for source in ("f", "m", "ff")], [False, True, True])
        self.assertEqual([Never().holds(told, source) for source in ("f", "m", "ff")], [False, False, True])
        self.assertEqual((str(Unborne()), str(Never())), ("unborne", "never"))

    def test_unlike(self):
        told = case(f=1, m=1, ff=2, mm=None, f_0=2, m_1=3)
        for one, other, held in (("f", "m", False), ("f", "ff", True), ("ff", "f", True), ("mm", "f", False),
                                 ("f", "mm", False), ("fm", "f", False), ("f", "fm", False), ("mm", "fm", False),
                                 ("ff", "f.0", False), ("f.0", "m.1", True)):
            self.assertIs(Unlike(one, other).holds(told, "f"), held, (one, other))
        unlike = Unlike("f", "m.1")
        self.assertEqual((unlike.one, unlike.other, str(unlike)), ("f", "m.1", "unlike f m.1"))
        for source in SOURCES:
            Unlike(source, source)
        for thing in NO_SOURCES:
            self.refused(BadCondition, ("source",), Unlike, thing, "f")
            self.refused(BadCondition, ("source",), Unlike, "f", thing)

    def test_equality(self):
        made = [Number(1), Number(2), Alive("f"), Dead("f"), Alive("m"), Dead("m"), Unborne(), Never(),
                Unlike("f", "m"), Unlike("m", "f"), Unlike("f", "f")]
        again = [Number(1), Number(2), Alive("f"), Dead("f"), Alive("m"), Dead("m"), Unborne(), Never(),
                 Unlike("f", "m"), Unlike("m", "f"), Unlike("f", "f")]
        for index, one in enumerate(made):
            self.assertIsInstance(one, Condition)
            for place, other in enumerate(again):
                self.assertIs(one == other, index == place, (str(one), str(other)))
                self.assertIs(one != other, index != place)
            self.unlike_all(one, str(one), None, 1, ("f",))


class TakeTest(Checks):
    def test_attributes_and_texts(self):
        take = Take("ff")
        self.assertEqual((take.source, take.conditions, str(take)), ("ff", (), "take ff"))
        take = Take("m.0", Number(1), Dead("ff"))
        self.assertEqual((take.source, take.conditions), ("m.0", (Number(1), Dead("ff"))))
        self.assertEqual(str(take), "take m.0 if number 1, dead ff")
        self.assertEqual((Take.MANNER, take.MANNER), ("take", "take"))
        for source in SOURCES:
            self.assertEqual(Take(source).source, source)

    def test_wrong_ones(self):
        for thing in NO_SOURCES:
            self.refused(BadClause, (0, "source"), Take, thing)
            self.refused(BadClause, (0, "source"), Take, thing, *[None] * 5)
        self.refused(BadClause, (0, "many"), Take, "f", *[Number(1)] * 5)
        self.refused(BadClause, (0, "many"), Take, "f", None, *[Number(1)] * 4)
        self.assertEqual(len(Take("f", *[Number(1)] * 4).conditions), 4)
        for index in range(4):
            for thing in ODD_THINGS + (Unborne, Take("f"), Free(), "unborne", AlwaysEqual()):
                conditions = [Never()] * index + [thing] + [None] * (3 - index)
                self.refused(BadClause, (index, "condition"), Take, "f", *conditions)

    def test_passed_over(self):
        told = case(f=1, m=2, ff=None, borne=(1,), ever=(1, 2))
        self.assertEqual(Take("ff", Number(1)).passed_over(told), "nobody")
        self.assertEqual(Take("mm").passed_over(told), "nobody")
        self.assertIsNone(Take("f").passed_over(told))
        self.assertIsNone(Take("m", Unborne(), Number(1)).passed_over(told))
        self.assertEqual(Take("m", Number(1), Never(), Number(2)).passed_over(told), 1)
        self.assertEqual(Take("f", Unborne()).passed_over(told), 0)
        self.assertEqual(Take("m", Number(1), Unborne(), Number(1), Number(2)).passed_over(told), 3)
        self.assertEqual(type(Take("f", Unborne()).passed_over(told)), int)

    def test_nobody_means_no_condition_is_asked(self):
        self.assertEqual(Take("f", Unborne(), Never(), Number(2)).passed_over(case(2)), "nobody")

    def test_the_name_nought_is_somebody(self):
        self.assertIsNone(Take("f").passed_over(case(f=0)))
        self.assertEqual(Take("f", Unborne()).passed_over(case(f=0, borne=(0,))), 0)
        self.assertTrue(Unlike("f", "m").holds(case(f=0, m=1), "f"))

    def test_equality(self):
        self.assertEqual(Take("f", Number(1), Never()), Take("f", Number(1), Never()))
        self.unlike_all(Take("f", Number(1), Never()), Take("f", Never(), Number(1)), Take("f"), Take("m", Number(1), Never()))
        self.unlike_all(Take("f"), Free("f"), "take f", None, Free())


class FreeTest(Checks):
    def test_attributes_and_texts(self):
        free = Free("ff", "living", "m.1", "ever")
        self.assertEqual(free.bars, ("ff", "living", "m.1", "ever"))
        self.assertEqual((str(free), str(Free()), Free().bars), ("free not ff, living, m.1, ever", "free", ()))
        self.assertEqual((Free.MANNER, free.MANNER), ("free", "free"))
        for source in SOURCES:
            self.assertEqual(Free(source).bars, (source,))

    def test_wrong_ones(self):
        self.refused(BadClause, (0, "many"), Free, *["f"] * 5)
        self.refused(BadClause, (0, "many"), Free, None, *["f"] * 4)
        self.assertEqual(len(Free(*["f"] * 4).bars), 4)
        for index in range(4):
            for thing in NO_SOURCES + ("Living", "unborne", Never()):
                if not (isinstance(thing, str) and thing in ("living", "ever")):
                    bars = ["living"] * index + [thing] + [None] * (3 - index)
                    self.refused(BadClause, (index, "bar"), Free, *bars)

    def test_barred(self):
        told = case(f=1, m=2, ff=None, f_0=0, borne=(5,), ever=(5, 6))
        free = Free("ff", "m", "living", "ever")
        self.assertEqual([free.barred(told, name) for name in (1, 2, 5, 6, 7)], [None, 1, 2, 3, None])
        self.assertEqual(Free("f", "f").barred(told, 1), 0)
        self.assertEqual(Free("m", "f.0").barred(told, 0), 1)
        self.assertIsNone(Free("mm", "ff").barred(told, 0))
        self.assertIsNone(Free().barred(told, 1))
        self.assertIsNone(Free("living").barred(told, 6))

    def test_equality(self):
        self.assertEqual(Free("f", "living"), Free("f", "living"))
        self.unlike_all(Free("f", "living"), Free("living", "f"), Free("f"), Free(), ("f", "living"))
