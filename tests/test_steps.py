"""Steps [5.4], [5.5], also held against what happens in records [5.8]."""

import random

from namesakes.clauses import Alive, Dead, Free, Never, Number, Take, Unborne
from namesakes.customs import Custom
from namesakes.errors import TooWide
from namesakes.joinings import joining_of_names
from namesakes.patterns import Pattern
from namesakes.records import Record
from namesakes.scopes import Scope
from namesakes.states import CoupleState, PersonState
from namesakes.steps import Step, birth_names, case_of, following_steps, founder_steps, wedding_steps
from tests.checks import Checks
from tests.families import Family, chance_custom, chance_record

FREE = [Free()]


def deeds(steps):
    return [step.deed for step in steps]


def results(steps):
    return [step.results for step in steps]


class FounderTest(Checks):
    def test_patterns_in_order_and_nobody_above(self):
        takes = [Take("ff"), Take("f.0"), Take("m.1"), Free()]
        scope = Scope(Custom(takes, FREE, house=[("m", 0), ("given", "m")]))
        self.assertEqual([scope.places(kind) for kind in "sd"], [("", "f", ".0"), ("", ".0", ".1")])
        steps = list(founder_steps(scope))
        self.assertEqual(deeds(steps), [("comes", "s")] * 2 + [("comes", "d")] * 5)
        self.assertTrue(all(step.states == () for step in steps))
        self.assertEqual(results(steps), [
            (PersonState("s", (0, None, 0), ()),), (PersonState("s", (0, None, 1), ()),),
            (PersonState("d", (0, 0, 0), ()),), (PersonState("d", (0, 0, 1), ()),), (PersonState("d", (0, 1, 0), ()),),
            (PersonState("d", (0, 1, 1), ()),), (PersonState("d", (0, 1, 2), ()),),
        ])

    def test_lives_are_nobody(self):
        scope = Scope(Custom([Take("f", Alive("ff"), Dead("fm")), Free()], FREE))
        self.assertEqual(results(founder_steps(scope)),
                         [(PersonState("s", (0,), (None, None)),), (PersonState("d", (), ()),)])

    def test_nothing_is_read(self):
        scope = Scope(Custom(FREE, FREE))
        self.assertEqual(list(founder_steps(scope)), [
            Step(("comes", "s"), (), (PersonState("s", (), ()),)), Step(("comes", "d"), (), (PersonState("d", (), ()),)),
        ])

    def test_marks_in_order(self):
        steps = list(founder_steps(Sided(Custom([Take("f.0"), Free()], FREE, house=[("given", "f")]))))
        self.assertEqual(results(steps), [
            (PersonState("s", (0, 0), (), 0),), (PersonState("s", (0, 1), (), 0),),
            (PersonState("s", (0, 0), (), 7),), (PersonState("s", (0, 1), (), 7),),
            (PersonState("d", (), (), 0),), (PersonState("d", (), (), 7),),
        ])


class Sided(Scope):
    """Persons of mark 7 are on the side of the last custom, children on their mother's."""

    def custom_for(self, couple, kind):
        return self.wedding_custom(kind, couple.marks[1])

    def wedding_custom(self, kind, mark):
        return self.customs[-1 if mark == 7 else 0]

    def first_marks(self, kind):
        return (0, 7)

    def child_mark(self, couple, kind):
        return couple.marks[1]


class WeddingTest(Checks):
    def test_every_joining_in_order(self):
        scope = Scope(Custom([Take("f"), Take("ff"), Take("m"), Take("mf"), Free()], FREE))
        father, mother = PersonState("s", (0, 1), ()), PersonState("d", (0, 0), ())
        steps = list(wedding_steps(scope, father, mother))
        self.assertEqual(steps, [
            Step(("weds", links), (father, mother), (CoupleState(names, (), 0, 0, ()),))
            for links, names in (((None,), (0, 1, 2, 2)), ((0,), (0, 1, 0, 0)), ((1,), (0, 1, 1, 1)))
        ])

    def test_rules_take_both_sides_as_they_are_ahead_of_the_wedding(self):
        rules = {"house": [("f", 0)], "son_weds": [0], "daughter_weds": [0]}
        scope = Scope(Custom([Take("f.0"), Take("m.0"), Free()], FREE, **rules))
        father, mother = PersonState("s", (0,), ()), PersonState("d", (0,), ())
        self.assertEqual(deeds(wedding_steps(scope, father, mother)), [("weds", (None,)), ("weds", (0,))])
        names = [step.results[0].names for step in wedding_steps(scope, father, mother)]
        # The house names change places and are numbered anew.
        self.assertEqual(names, [(0, 1), (0, 0)])
        scope = Scope(Custom([Take("f.0"), Take("m.1"), Take("f.1"), Free()], FREE,
                             house=[("f", 0), ("f", 1)], son_weds=[1, 0], daughter_weds=["own", 1]))
        self.assertEqual([scope.places(kind) for kind in "sd"], [(".0", ".1"), (".0", ".1")])
        father, mother = PersonState("s", (0, 1), ()), PersonState("d", (0, 1), ())
        # Classes ahead: father 0, 1, mother 2, 3; behind: father 3, 2, mother 2, 1.
        self.assertEqual(next(wedding_steps(scope, father, mother)).results[0].names, (0, 1, 1, 2))

    def test_lives_marks_and_tracked_classes(self):
        scope = Scope(Custom([Take("ff", Unborne(), Dead("mf")), Free()], FREE), tracked=["mf"])
        self.assertEqual([scope.places(kind) for kind in "sd"], [("", "f"), ("f",)])
        father, mother = PersonState("s", (0, 1), ()), PersonState("d", (0,), ("alive",))
        couples = [step.results[0] for step in wedding_steps(scope, father, mother)]
        self.assertEqual(couples, [
            CoupleState((0, 1, 2), ("alive",), 0, 0, ((1, 0), (2, 0))),
            CoupleState((0, 1, 0), ("alive",), 0, 0, ((0, 0), (1, 0))),
            CoupleState((0, 1, 1), ("alive",), 0, 0, ((1, 0),)),
        ])
        nobody = PersonState("s", (0, None), ())
        couple = next(wedding_steps(scope, nobody, mother)).results[0]
        self.assertEqual(couple, CoupleState((0, None, 1), ("alive",), 0, 0, ((1, 0),)))

    def test_tracked_house_names_behind_the_wedding(self):
        rules = {"house": [("f", 0)], "daughter_weds": [0]}
        scope = Scope(Custom([Take("m.0", Never()), Free()], FREE, **rules))
        father, mother = PersonState("s", (0,), ()), PersonState("d", (0,), ())
        couple = next(wedding_steps(scope, father, mother)).results[0]
        self.assertEqual(couple, CoupleState((0, 0), (), 0, 0, ((0, 0),)))

    def test_house_names_that_are_nobody(self):
        rules = {"house": [("f", 0)], "daughter_weds": [0]}
        scope = Scope(Custom([Take("m.0", Never()), Free("f.0")], FREE, **rules))
        father, mother = PersonState("s", (None,), ()), PersonState("d", (0,), ())
        couple = next(wedding_steps(scope, father, mother)).results[0]
        self.assertEqual(couple, CoupleState((None, None), (), 0, 0, ()))
        born = [step for step in following_steps(scope, couple) if step.deed[0] == "born"]
        self.assertEqual(deeds(born), [("born", "s", 1, None), ("born", "d", 0, None)])
        self.assertEqual(born[0].results[1], PersonState("s", (None,), ()))

    def test_a_followed_name_is_the_last_pair(self):
        scope = Scope(Custom([Take("f", Never()), Free()], FREE), followed=True)
        couple = next(wedding_steps(scope, PersonState("s", (0,), ()), PersonState("d", (), ()))).results[0]
        self.assertEqual(couple, CoupleState((0,), (), 0, 0, ((0, 0), (1, 0))))
        scope = Scope(Custom(FREE, FREE), followed=True)
        couple = next(wedding_steps(scope, PersonState("s", (), ()), PersonState("d", (), ()))).results[0]
        self.assertEqual(couple, CoupleState((), (), 0, 0, ((0, 0),)))

    def test_each_kind_is_asked_for_its_own_custom(self):
        class Told(Scope):
            def wedding_custom(self, kind, mark):
                return self.customs["sd".index(kind)]

        takes = [Take("f.0"), Take("m.0"), Free()]
        swap = Custom(takes, FREE, house=[("f", 0)], son_weds=[0], daughter_weds=[0])
        stay = Custom(takes, FREE, house=[("f", 0)])
        states = PersonState("s", (0,), ()), PersonState("d", (0,), ())
        # Behind a swap both have the name of the one whose kind's custom keeps it.
        for customs, links in (((swap, stay), (0, 0)), ((stay, swap), (0, 0)), ((stay, stay), (0, 1)), ((swap, swap), (0, 1))):
            self.assertEqual(next(wedding_steps(Told(*customs), *states)).results[0].names, links)

    def test_each_side_weds_by_the_custom_of_its_mark(self):
        one = Custom([Take("f.0"), Take("m.0"), Free()], FREE, house=[("f", 0)])
        other = Custom(one.sons, FREE, house=[("m", 0)], son_weds=[0], daughter_weds=[0])
        scope = Sided(one, other)
        for marks, names in (((0, 0), (0, 1)), ((7, 0), (0, 0)), ((0, 7), (0, 0)), ((7, 7), (0, 1))):
            father, mother = PersonState("s", (0,), (), marks[0]), PersonState("d", (0,), (), marks[1])
            couple = next(wedding_steps(scope, father, mother)).results[0]
            self.assertEqual((couple.names, couple.marks), (names, marks))
        couple = CoupleState((0, 1), (), 0, 0, (), (0, 7))
        born = [step for step in following_steps(scope, couple) if step.deed[0] == "born"]
        self.assertEqual(born[0].results, (couple, PersonState("s", (0,), (), 7)))
        mates = [step.results for step in following_steps(scope, couple) if step.deed[0] == "mate"]
        self.assertEqual(mates, [(PersonState("d", (0,), (), 7),), (PersonState("s", (0,), (), 0),)])


class FollowingTest(Checks):
    def test_elders_of_a_person(self):
        scope = Scope(Custom([Take("f", Dead("ff"), Dead("fm")), Free()], FREE))
        state = PersonState("s", (0,), ("alive", "alive"), 5)
        self.assertEqual(list(following_steps(scope, state)), [
            Step(("elder", "f"), (state,), (PersonState("s", (0,), ("dead", "alive"), 5),)),
            Step(("elder", "m"), (state,), (PersonState("s", (0,), ("alive", "dead"), 5),)),
        ])
        self.assertEqual(deeds(following_steps(scope, PersonState("s", (0,), (None, "alive")))), [("elder", "m")])
        self.assertEqual(deeds(following_steps(scope, PersonState("s", (0,), ("dead", None)))), [])

    def test_all_steps_of_a_couple_in_order(self):
        custom = Custom([Take("f", Never(), Number(4)), Free("ff", "living")], [Take("mf", Unborne()), Free()])
        scope = Scope(custom, also=["ff", "mf", "m"])
        self.assertEqual([scope.places(kind) for kind in "sd"], [("", "f"), ("", "f")])
        couple = CoupleState((0, 1, 2, 1), ("alive", "alive"), 2, 0, ((0, 2), (1, 1)), (3, 4))
        steps = list(following_steps(scope, couple))

        def grown(sons, borne):
            return CoupleState((0, 1, 2, 1), ("alive", "alive"), sons, 0, borne, (3, 4))

        def child(kind, own):
            parent = 0 if kind == "s" else 2
            names = [own, parent]
            return PersonState(kind, Pattern.of_names(names).entries, ("alive",))

        self.assertEqual(deeds(steps), [
            ("elder", "ff"), ("elder", "mf"), ("born", "s", 1, 2), ("born", "s", 1, None), ("born", "d", 0, 1),
            ("bearers", 0), ("mate", "f"), ("mate", "m"),
        ])
        self.assertTrue(all(step.states == (couple,) for step in steps))
        self.assertEqual(results(steps)[:2], [
            (CoupleState((0, 1, 2, 1), ("dead", "alive"), 2, 0, ((0, 2), (1, 1)), (3, 4)),),
            (CoupleState((0, 1, 2, 1), ("alive", "dead"), 2, 0, ((0, 2), (1, 1)), (3, 4)),),
        ])
        same = ((0, 2), (1, 1))
        self.assertEqual(results(steps)[2:5], [
            (grown(3, same), PersonState("s", (0, 1), ("alive",))),
            (grown(3, same), PersonState("s", (0, 1), ("alive",))),
            (grown(2, ((0, 2), (1, 2))), PersonState("d", (0, 1), ("alive",))),
        ])
        self.assertEqual(results(steps)[5:], [
            (grown(2, ((0, 1), (1, 1))),),
            (PersonState("d", (0, 1), ("alive",), 4),), (PersonState("s", (0, 1), ("alive",), 3),),
        ])

    def test_numbers_go_up_to_three_and_only_where_asked(self):
        scope = Scope(Custom([Take("f", Number(4)), Free()], FREE))
        for sons in range(4):
            couple = CoupleState((0,), (), sons, 0, ())
            case = case_of(scope, couple, "s")
            self.assertEqual((case.number, case_of(scope, couple, "d").number), (sons + 1, 1))
            born = {step.deed[1]: step.results[0] for step in following_steps(scope, couple) if step.deed[0] == "born"}
            self.assertEqual((born["s"].sons, born["s"].daughters), (min(3, sons + 1), 0))
            self.assertEqual((born["d"].sons, born["d"].daughters), (sons, 0))
            self.assertEqual([step.deed[2] for step in following_steps(scope, couple) if step.deed[:2] == ("born", "s")],
                             [0] if sons == 3 else [1, 1])
        scope = Scope(Custom(FREE, [Take("f", Number(4)), Free()]))
        born = {step.deed[1]: step.results[0] for step in following_steps(scope, couple_of(0, 2)) if step.deed[0] == "born"}
        self.assertEqual((born["d"].daughters, born["s"].daughters, born["s"].sons), (3, 2, 0))
        self.assertEqual(case_of(scope, couple_of(0, 2), "d").number, 3)

    def test_the_case(self):
        custom = Custom([Take("ff", Never()), Take("m.0"), Free()], FREE, house=[("f", 0)])
        scope = Scope(custom, also=["mm"])
        self.assertEqual([scope.places(kind) for kind in "sd"], [("", "f", ".0"), ("", "m", ".0")])
        couple = CoupleState((0, 1, 0, 2, None, 3), ("dead",), 0, 0, ((1, 1), (3, 2)))
        case = case_of(scope, couple, "d")
        self.assertEqual(case.names, {"f": 0, "ff": 1, "f.0": 0, "m": 2, "mm": None, "m.0": 3})
        self.assertEqual(case.lives, {"f": "alive", "m": "alive", "mm": "dead"})
        self.assertEqual((case.kind, case.number, case.borne, case.ever), ("d", 1, (3,), (1, 3)))

    def test_the_newborn(self):
        custom = Custom([Take("f.0"), Take("m.1"), Free()], FREE, house=[("f", 0), ("given", "m")])
        scope = Scope(custom, also=["fm"])
        self.assertEqual([scope.places(kind) for kind in "sd"], [("m", ".0"), ("", ".1")])
        self.assertEqual([scope.life_ways(kind) for kind in "sd"], [("m",), ()])
        couple = CoupleState((0, 1, 2, 3), ("dead",), 0, 0, ())
        born = [step for step in following_steps(scope, couple) if step.deed[0] == "born"]
        # A child's mother bears 2, its house names are 1, the father's, and 2.
        self.assertEqual(born[0], Step(("born", "s", 0, 1), (couple,), (couple, PersonState("s", (0, 1), ("alive",)))))
        self.assertEqual([step.deed[1:] for step in born[1:]], [("d", 0, name) for name in (0, 1, 2, 3, None)])
        self.assertEqual([step.results[1].names for step in born[1:]], [(0, 1), (0, 1), (0, 0), (0, 1), (0, 1)])

    def test_followed_names(self):
        custom = Custom([Take("f", Never()), Free("living")], [Free("ever", "f")])
        scope = Scope(custom, followed=True)
        couple = CoupleState((0,), (), 0, 0, ((0, 1), (1, 0)))
        self.assertEqual(deeds(following_steps(scope, couple)), [
            ("born", "s", 1, 0), ("born", "s", 1, 1), ("born", "s", 1, None), ("born", "d", 0, 1), ("born", "d", 0, None),
            ("mate", "f"), ("mate", "m"),
        ])
        steps = {step.deed: step.results for step in following_steps(scope, couple)}
        self.assertEqual(steps["born", "s", 1, 1][0].borne, ((0, 1), (1, 2)))
        self.assertEqual(steps["born", "s", 1, None][0].borne, ((0, 1), (1, 0)))
        self.assertEqual(steps["born", "s", 1, 1][1], steps["born", "s", 1, None][1])
        self.assertEqual(steps["born", "s", 1, 1][1], PersonState("s", (0,), ()))
        borne = CoupleState((0,), (), 0, 0, ((0, 1), (1, 2)))
        self.assertEqual(deeds(following_steps(scope, borne)), [
            ("born", "s", 1, 0), ("born", "s", 1, None), ("born", "d", 0, None), ("bearers", 1), ("mate", "f"), ("mate", "m"),
        ])
        self.assertEqual((case_of(scope, borne, "s").borne, case_of(scope, borne, "s").ever), ((1,), (0, 1)))
        once = CoupleState((0,), (), 0, 0, ((0, 2), (1, 1)))
        self.assertEqual(birth_names(scope, once, "s"), (1, None))
        self.assertEqual(birth_names(scope, once, "d"), (None,))
        self.assertEqual((case_of(scope, once, "s").borne, case_of(scope, once, "s").ever), ((0,), (0, 1)))

    def test_a_followed_name_is_unlike_all_places(self):
        scope = Scope(Custom([Take("ff"), Free()], FREE), followed=True)
        couple = CoupleState((0, 1), (), 0, 0, ((2, 0),))
        born = [step for step in following_steps(scope, couple) if step.deed[:2] == ("born", "d")]
        self.assertEqual(birth_names(scope, couple, "d"), (0, 1, 2, None))
        self.assertEqual([step.results[0].borne for step in born], [((2, 0),), ((2, 0),), ((2, 2),), ((2, 0),)])
        free = Scope(Custom([Take("ff", Number(1)), Free()], FREE), followed=True)
        couple = CoupleState((0, 1), (), 1, 0, ((2, 0),))
        sons = [step.results[1].names for step in following_steps(free, couple) if step.deed[:2] == ("born", "s")]
        self.assertEqual(sons, [(0, 0), (0, 1), (0, 1), (0, 1)])

    def test_a_take_gives_its_class_whatever_is_barred(self):
        scope = Scope(Custom([Take("f"), Free("f", "ever")], FREE))
        couple = CoupleState((0,), (), 0, 0, ((0, 2),))
        self.assertEqual((birth_names(scope, couple, "s"), birth_names(scope, couple, "d")), ((0,), (0, None)))

    def test_equality_and_attributes(self):
        state = PersonState("s", (), ())
        step = Step(("comes", "s"), (), (state,))
        self.assertEqual((step.deed, step.states, step.results), (("comes", "s"), (), (state,)))
        self.assertEqual(step, Step(("comes", "s"), (), (PersonState("s", (), ()),)))
        self.unlike_all(step, Step(("comes", "d"), (), (state,)), Step(("comes", "s"), (state,), (state,)),
                        Step(("comes", "s"), (), ()), (("comes", "s"), (), (state,)))

    def test_generators(self):
        scope = Scope(Custom(FREE, FREE))
        states = [step.results[0] for step in founder_steps(scope)]
        for generator in (founder_steps(scope), wedding_steps(scope, *states), following_steps(scope, states[0])):
            self.assertIs(iter(generator), generator)


def couple_of(sons, daughters):
    return CoupleState((0,), (), sons, daughters, ())


class Watched:
    """The states of a family at its end, read off plainly; each couple follows some name."""

    def __init__(self, scope, family, record):
        self.scope = scope
        self.family = family
        self.record = record

    def elder(self, label, way):
        for letter in way:
            parents = [row[1:3] for row in self.family.rows if row[0] == "born" and row[4] == label]
            label = parents[0]["fm".index(letter)] if parents else None
            if label is None:
                return None
        return label

    def names(self, label):
        found = []
        for place in self.scope.places(self.record.kind_of(label)):
            if place[:1] == ".":
                found.append(self.family.told[label][2][int(place[1])])
            else:
                elder = self.elder(label, place)
                found.append(None if elder is None else self.family.told[elder][0])
        return found

    def lives(self, label):
        elders = [self.elder(label, way) for way in self.scope.life_ways(self.record.kind_of(label))]
        return [None if elder is None else "dead" if self.family.is_dead(elder) else "alive" for elder in elders]

    def person(self, label):
        return PersonState(self.record.kind_of(label), Pattern.of_names(self.names(label)).entries, self.lives(label))

    def followed_name(self, names):
        free = [name for name in (4, 3, 2, 1, 0) if name not in names]
        return free[0] if free else 50

    def couple(self, father, mother):
        scope = self.scope
        names = self.names(father) + self.names(mother)
        pattern = Pattern.of_names(names)
        counts = [0, 0]
        for row in self.family.rows:
            if row[0] == "born" and row[1:3] == (father, mother):
                counts["sd".index(row[3])] += 1
        sons, daughters = [min(3, n) if kind in scope.reads.numbered else 0 for kind, n in zip("sd", counts)]
        sources = ["f" + place for place in scope.places("s")] + ["m" + place for place in scope.places("d")]
        tracked = {names[sources.index(source)] for source in scope.reads.tracked} - {None}
        borne = [(pattern.entries[names.index(name)], self.mark(father, mother, name)) for name in tracked]
        if scope.followed:
            borne.append((pattern.class_count, self.mark(father, mother, self.followed_name(names))))
        return CoupleState(pattern.entries, self.lives(father) + self.lives(mother), sons, daughters, sorted(borne))

    def mark(self, father, mother, name):
        if name in self.family.borne(father, mother):
            return 2
        return 1 if name in self.family.ever(father, mother) else 0

    def all_states(self):
        unwed = [who for who in self.record.living if self.record.mate_of(who) is None]
        states = {(who,): self.person(who) for who in unwed}
        return {**states, **{pair: self.couple(*pair) for pair in self.record.couples}}


def key(state):
    return tuple(vars(state).items())


def behind_deaths(scope, state):
    """What deaths alone can lead to from here, by their keys."""
    found = {key(state): state}
    waiting = [state]
    while waiting:
        for step in following_steps(scope, waiting.pop()):
            if step.deed[0] in ("elder", "bearers", "mate") and key(step.results[0]) not in found:
                found[key(step.results[0])] = step.results[0]
                waiting.append(step.results[0])
    return list(found.values())


def chance_scope(rng):
    while True:
        custom = chance_custom(rng, longest=3 if rng.random() < 0.3 else 2)
        named = {"also": rng.choice([(), (), ("f",), ("mf",)]), "followed": rng.random() < 0.4}
        try:
            return Scope(custom, tracked=rng.choice([(), (), ("m",)]), houses=rng.random() < 0.3, **named)
        except TooWide:
            pass


class RecordsTest(Checks):
    """Each row of a record changes its states by steps."""

    def test_by_chance_each_row_is_steps(self):
        rng = random.Random(16)
        for _ in range(150):
            scope = chance_scope(rng)
            record = chance_record(rng, scope.customs[0], 24)
            self.follow(scope, record)

    def follow(self, scope, record):
        states = {}
        for many, row in enumerate(record.rows, 1):
            family = Family(scope.customs[0], record.rows[:many])
            watched = Watched(scope, family, record.until(many))
            now = watched.all_states()
            self.hold_row(scope, watched, row, states, now)
            states = now

    def hold_row(self, scope, watched, row, states, now):
        changed = {labels for labels in now if now[labels] != states.get(labels)}
        if row[0] == "comes":
            self.assertEqual(changed, {(row[1],)})
            self.assertIn((now[(row[1],)],), results(founder_steps(scope)))
        elif row[0] == "weds":
            self.hold_wedding(scope, watched, row, states, now)
            self.assertEqual(changed, {row[1:]})
        elif row[0] == "born":
            self.hold_birth(scope, watched, row, states, now)
            self.assertLessEqual(changed, {row[1:3], (row[4],)})
        else:
            for labels, state in now.items():
                before = [state for old, state in states.items() if set(labels) <= set(old)][0]
                self.assertIn(state, behind_deaths(scope, before))

    def hold_wedding(self, scope, watched, row, states, now):
        father, mother = row[1:]
        family = Family(scope.customs[0], watched.family.rows[:-1])
        before = Watched(scope, family, Record(scope.width, family.rows))
        links = joining_of_names(before.names(father), before.names(mother)).links
        wanted = Step(("weds", links), (states[(father,)], states[(mother,)]), (now[father, mother],))
        self.assertIn(wanted, list(wedding_steps(scope, states[(father,)], states[(mother,)])))

    def hold_birth(self, scope, watched, row, states, now):
        father, mother = row[1:3]
        couple = states[father, mother]
        names = watched.names(father) + watched.names(mother)
        told = watched.family.told[row[4]]
        name = couple.names[names.index(told[0])] if told[0] in names else None
        if name is None and scope.followed and told[0] == watched.followed_name(names):
            name = couple.classes
        wanted = Step(("born", row[3], told[3], name), (couple,), (now[father, mother], now[(row[4],)]))
        steps = [step for step in following_steps(scope, couple) if step.deed[:2] == ("born", row[3])]
        self.assertIn(wanted, steps)
        self.assertEqual(birth_names(scope, couple, row[3]), tuple(step.deed[3] for step in steps))

    def test_by_chance_all_births_are_there(self):
        rng = random.Random(17)
        for _ in range(60):
            scope = chance_scope(rng)
            record = chance_record(rng, scope.customs[0], 16)
            family = Family(scope.customs[0], record.rows)
            watched = Watched(scope, family, record)
            for father, mother in record.couples:
                for kind in "sd":
                    self.hold_all_births(scope, watched, father, mother, kind)

    def hold_all_births(self, scope, watched, father, mother, kind):
        """Each name that the child can bear in the record is that of a step; none is barred by its state."""
        names = watched.names(father) + watched.names(mother)
        row = ("born", father, mother, kind, "child", 0)
        index, name, _ = watched.family.judge(row)
        couple = watched.couple(father, mother)
        found = birth_names(scope, couple, kind)
        if name is not None:
            self.assertEqual(found, (couple.names[names.index(name)],))
            return
        barred = watched.family.barred_names(row)
        allowed = {couple.names[names.index(name)] for name in names if name is not None and name not in barred}
        self.assertLessEqual(allowed | {None}, set(found))
        followed = watched.followed_name(names)
        self.assertEqual(couple.classes in found, scope.followed and followed not in barred)
        tracked = {number for number, _ in couple.borne}
        self.assertTrue(all(n in allowed or n not in tracked for n in found if n is not None and n < couple.classes))
        self.assertEqual(list(found), sorted(n for n in found if n is not None) + [None])


class ClosureTest(Checks):
    """What steps lead to from nothing is just what comes in records, for small customs."""

    CUSTOMS = (
        Custom([Take("ff", Dead("ff"), Unborne()), Free("ff")], FREE),
        Custom([Take("f", Number(2)), Free("living")], [Take("f", Never()), Free()]),
        Custom([Take("m.0", Never()), Free()], FREE, house=[("given", "f")], daughter_weds=[0]),
    )

    def closure(self, scope):
        found = {}
        waiting = [step.results[0] for step in founder_steps(scope)]
        while waiting:
            state = waiting.pop()
            if key(state) in found:
                continue
            found[key(state)] = state
            steps = list(following_steps(scope, state))
            if isinstance(state, PersonState):
                for other in list(found.values()):
                    if isinstance(other, PersonState) and other.kind != state.kind:
                        pair = (state, other) if state.kind == "s" else (other, state)
                        steps += list(wedding_steps(scope, *pair))
            waiting += [result for step in steps for result in step.results]
        return found

    def test_all_and_nothing_else(self):
        rng = random.Random(18)
        for custom in self.CUSTOMS:
            scope = Scope(custom)
            wanted = self.closure(scope)
            seen = {}
            for _ in range(400):
                record = chance_record(rng, custom, rng.randint(4, 24), pool=rng.choice([2, 5, 50]))
                for further in [record] + [record.after(("dies", who)) for who in record.living]:
                    watched = Watched(scope, Family(custom, further.rows), further)
                    seen.update({key(state): state for state in watched.all_states().values()})
                if len(seen) >= len(wanted):
                    break
            self.assertEqual(set(seen), set(wanted))
