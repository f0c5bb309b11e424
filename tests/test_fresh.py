"""Fresh records and states of their persons [7.1] to [7.5]."""

import random

from namesakes.clauses import Alive, Dead, Free, Never, Number, Take, Unborne, Unlike
from namesakes.customs import Custom
from namesakes.errors import BadChoice, BadKind, BadWidth, NoPerson, NoState, NoWays, TooWide
from namesakes.fresh import fresh_fault, places_of, state_in
from namesakes.freshcouples import FreshCouple, FreshReads
from namesakes.freshpersons import deeds_to
from namesakes.freshstates import PersonFamily, Writing, fresh_family, fresh_states, write_deeds
from namesakes.kinwords import kin_words
from namesakes.linewords import line_words
from namesakes.records import Record
from tests.checks import Checks
from tests.families import ODD_THINGS, AlwaysEqual, label_at
from tests.freshworlds import chance_ways_custom, grown_worlds

FREE = [Free()]
PLAIN = Custom(FREE, FREE)
ELDEST = Custom([Take("ff", Number(1)), Free()], FREE)
PAIR = [("comes", "a", "s", 1, ()), ("comes", "b", "d", 2, ()), ("weds", "a", "b")]


def child(label, choice, kind="s", father="a", mother="b"):
    return ("born", father, mother, kind, label, choice)


class WaysTest(Checks):
    CALLS = (lambda custom: fresh_fault(custom, Record(0)), lambda custom: places_of(custom, None), lambda custom: state_in(custom, Record(0), None),
             fresh_states, lambda custom: fresh_family(custom, None), lambda custom: line_words(custom, None), kin_words,
             lambda custom: kin_words(custom, half=True))

    def refuse_all(self, error, what, custom):
        for call in self.CALLS:
            self.refused(error, (what,), call, custom)

    def test_customs_that_are_not_asked(self):
        one = {"house": [("f", 0)]}
        for clause in (Take("f", Alive("f")), Take("f", Number(1), Dead("mm"))):
            self.refuse_all(NoWays, "lives", Custom([clause, Free()], FREE))
            self.refuse_all(NoWays, "lives", Custom(FREE, [Take("m"), clause, Free()]))
            # Lives go ahead of houses, and both ahead of too much.
            self.refuse_all(NoWays, "lives", Custom([Take("f.0"), clause, Free("m.0")], FREE, **one))
            self.refuse_all(NoWays, "lives", Custom([Take("f.0"), Free()], [Take("m.0"), clause, Free()], **one))
            self.refuse_all(NoWays, "lives", Custom([Take("fff"), Take("ffm"), Take("fmf"), Free()], [clause, Free()]))
        for sons in ([Take("f.0"), Free()], [Take("f", Unlike("m", "m.0")), Free()], [Take("f", Never(), Unlike("f.0", "m")), Free()],
                     [Free("living", "m.0")], [Take("fff"), Take("ffm"), Take("fmf"), Free("f.0")]):
            self.refuse_all(NoWays, "houses", Custom(sons, FREE, **one))
            self.refuse_all(NoWays, "houses", Custom([Take("ff"), Free()], sons, **one))

    def test_too_wide(self):
        self.refuse_all(TooWide, "names", Custom([Take("fff"), Take("ffm"), Take("fmf"), Free()], FREE))
        self.refuse_all(TooWide, "tracked", Custom([Take("f"), Take("m"), Free()], [Take("ff"), Free("ever")]))

    def test_house_rules_are_not_looked_at(self):
        custom = Custom([Take("ff", Number(1)), Free()], FREE, house=[("given", "f"), ("m", 0)], son_weds=[1, "own"], daughter_weds=[0, 0])
        self.assertEqual([places_of(custom, kind) for kind in "sd"], [("", "f"), ("",)])
        self.assertEqual(fresh_states(custom), fresh_states(ELDEST))
        for state in fresh_states(custom):
            family = fresh_family(custom, state)
            self.assertEqual((family.record.width, fresh_fault(custom, family.record)), (2, None))
            self.assertEqual(state_in(custom, family.record, family.label), state)
        self.assertEqual(line_words(custom, ("any", "s")), line_words(ELDEST, ("any", "s")))
        self.assertEqual([vars(told).keys() for told in (kin_words(custom), kin_words(ELDEST))][0], {"half", "products"})


class FreshFaultTest(Checks):
    def test_names_that_come_in(self):
        rows = PAIR + [child("c", 3), ("comes", "e", "d", 4, ()), ("weds", "c", "e"), child("g", 9, "s", "c", "e"), child("h", 5, "s", "c", "e")]
        self.assertIsNone(fresh_fault(ELDEST, Record(0, rows)))
        self.assertIsNone(fresh_fault(ELDEST, Record(0)))
        # g is named by a Take, so its choice may be any name, and does not come in.
        for choice in (1, 2, 9):
            self.assertIsNone(fresh_fault(ELDEST, Record(0, rows[:6] + [child("g", choice, "s", "c", "e"), child("h", 9, "s", "c", "e")])))
        for index, row in ((1, ("comes", "b", "d", 1, ())), (3, child("c", 2)), (4, ("comes", "e", "d", 3, ())), (7, child("h", 1, "s", "c", "e")),
                           (7, child("h", 4, "s", "c", "e"))):
            self.assertEqual(fresh_fault(ELDEST, Record(0, rows[:index] + [row] + rows[index + 1:])), (index, "name"))
        # Also names of the dead, and those that were not chosen.
        self.assertEqual(fresh_fault(ELDEST, Record(0, rows[:3] + [("dies", "a"), ("comes", "x", "s", 1, ())])), (4, "name"))

    def test_house_names_do_not_count(self):
        custom = Custom(FREE, FREE, house=[("f", 0)])
        rows = [("comes", "a", "s", 1, (5,)), ("comes", "b", "d", 5, (1,)), ("weds", "a", "b"), child("c", 6), ("comes", "e", "d", 7, (6,))]
        self.assertIsNone(fresh_fault(custom, Record(1, rows)))

    def test_kin_who_wed(self):
        rows = PAIR + [child("c", 3), child("e", 4, "d"), ("weds", "c", "e"), ("comes", "x", "s", 1, ())]
        self.assertEqual(fresh_fault(PLAIN, Record(0, rows)), (5, "kin"))
        rows = PAIR + [child("c", 3), child("e", 4, "d"), ("dies", "b"), ("weds", "a", "e")]
        self.assertEqual(fresh_fault(PLAIN, Record(0, rows)), (6, "kin"))
        # Half siblings' children are kin, in-laws are not.
        rows = PAIR + [child("c", 3), ("dies", "b"), ("comes", "e", "d", 4, ()), ("weds", "a", "e"), child("g", 5, "d", "a", "e"), ("weds", "c", "g")]
        self.assertEqual(fresh_fault(PLAIN, Record(0, rows)), (8, "kin"))
        rows = PAIR + [child("c", 3), ("comes", "e", "d", 4, ()), ("weds", "c", "e"), ("dies", "a"), ("dies", "c"), ("comes", "x", "s", 5, ()), ("weds", "x", "b")]
        self.assertIsNone(fresh_fault(PLAIN, Record(0, rows)))

    def test_the_first_wrong_row_and_nothing_behind_it(self):
        custom = Custom([Free("f")], [Free("living")])
        rows = PAIR + [child("c", 2), child("e", 1), child("g", 2, "d"), child("h", 2, "d"), ("weds", "c", "g")]
        self.assertEqual(fresh_fault(custom, Record(0, rows)), (3, "name"))
        rows = PAIR + [child("c", 3), child("e", 4, "d"), ("weds", "c", "e"), child("g", 1)]
        self.assertEqual(fresh_fault(custom, Record(0, rows)), (5, "kin"))
        # A barred choice is one that is borne.
        self.assertEqual(fresh_fault(custom, Record(0, PAIR + [child("c", 1)])), (3, "name"))

    def test_the_width(self):
        for width in (1, 2):
            self.refused(BadWidth, (width,), fresh_fault, ELDEST, Record(width))

    def test_a_long_record(self):
        rows = [("comes", "x" + "".join(chr(97 + n // 26 ** k % 26) for k in range(3)), "s", n, ()) for n in range(4000)]
        self.assertIsNone(fresh_fault(ELDEST, Record(0, rows)))
        self.assertEqual(fresh_fault(ELDEST, Record(0, rows + [("comes", "a", "s", 7, ())])), (4000, "name"))


class StateTest(Checks):
    def test_places(self):
        self.assertEqual([places_of(PLAIN, kind) for kind in "sd"], [("",), ("",)])
        self.assertEqual([places_of(ELDEST, kind) for kind in "sd"], [("", "f"), ("",)])
        custom = Custom([Take("fff"), Free()], [Take("mf"), Free("mm")])
        self.assertEqual([places_of(custom, kind) for kind in "sd"], [("", "f", "ff"), ("", "f", "m")])
        for thing in ODD_THINGS + ("f", "sd", AlwaysEqual()):
            self.refused(BadKind, (thing,), places_of, custom, thing)

    def test_states_of_a_record(self):
        custom = Custom([Take("ff", Number(1)), Take("f", Number(2)), Free()], FREE)
        rows = PAIR + [child("c", 3), child("e", 4), ("comes", "g", "d", 5, ()), ("weds", "e", "g"), child("h", 6, "s", "e", "g"),
                       child("i", 7, "s", "e", "g"), child("j", 8, "s", "e", "g"), child("k", 9, "d", "e", "g")]
        record = Record(0, rows)
        told = {"a": ("s", (0, None)), "b": ("d", (0,)), "c": ("s", (0, 1)), "e": ("s", (0, 0)), "h": ("s", (0, 0)), "i": ("s", (0, 0)),
                "j": ("s", (0, 1)), "k": ("d", (0,))}
        for label, state in told.items():
            self.assertEqual(state_in(custom, record, label), state)
        # A record need not be fresh.
        self.assertEqual(state_in(custom, Record(0, PAIR + [child("c", 1)]), "c"), ("s", (0, 0)))

    def test_errors_in_order(self):
        custom = Custom([Take("ff"), Free("f")], FREE)
        barred = Record(0, PAIR + [child("c", 1)])
        for label in ODD_THINGS + ("x", AlwaysEqual()):
            self.refused(BadWidth, (1,), state_in, custom, Record(1), label)
            self.refused(BadChoice, ("c", 1, 0), state_in, custom, barred, label)
            self.refused(NoPerson, (label,), state_in, custom, barred.shorter(), label)
        self.refused(BadWidth, (0,), state_in, Custom([Free("f")], FREE, house=[("f", 0)]), barred, "c")

    def test_all_states_by_hand(self):
        self.assertEqual(fresh_states(PLAIN), (("s", (0,)), ("d", (0,))))
        self.assertEqual(fresh_states(ELDEST), (("s", (0, None)), ("s", (0, 1)), ("d", (0,))))
        self.assertEqual(fresh_states(Custom([Take("f", Number(1)), Free("ff")], FREE)), (("s", (0, None)), ("s", (0, 0)), ("s", (0, 1)), ("d", (0,))))
        custom = Custom([Take("fff", Number(2)), Free()], [Take("f", Never()), Free()])
        self.assertEqual(fresh_states(custom), (("s", (0, None, None)), ("s", (0, 1, None)), ("s", (0, 1, 2)), ("d", (0,))))
        custom = Custom([Take("f", Number(2)), Free()], [Take("ff", Number(2)), Take("mff", Number(1)), Take("mf", Number(3)), Free()])
        wanted = [("s", entries) for entries in ((0, None), (0, 0), (0, 1))]
        wanted += [("d", entries) for entries in ((0, None, None), (0, 0, 0), (0, 1, None), (0, 1, 0), (0, 1, 1), (0, 1, 2))]
        self.assertEqual([places_of(custom, kind) for kind in "sd"], [("", "f"), ("", "f", "ff")])
        self.assertEqual(fresh_states(custom), tuple(wanted))

    def test_a_name_that_comes_only_behind_other_births_or_deaths(self):
        # The third son has the father's name, if the second, who has it, has died.
        custom = Custom([Take("f", Number(3), Unborne()), Take("f", Number(2)), Free("ff")], FREE)
        self.assertIn(("s", (0, 0)), fresh_states(custom))
        once = Custom([Take("f", Number(4), Unborne()), Free("ff")], [Take("f"), Free()])
        self.assertIn(("s", (0, 0)), fresh_states(once))
        never = Custom([Take("f", Number(2), Never()), Take("f", Number(1)), Free("ff")], FREE)
        family = fresh_family(never, ("s", (0, 0)))
        self.assertEqual(state_in(never, family.record, family.label), ("s", (0, 0)))

    def test_families(self):
        for told in (PersonFamily(1, 2), PersonFamily(label=2, record=1)):
            self.assertEqual((told.record, told.label), (1, 2))
        rng = random.Random(81)
        for _ in range(60):
            custom = chance_ways_custom(rng, rng.choice([2, 2, 3]))
            try:
                states = fresh_states(custom)
            except TooWide:
                continue
            self.assertEqual(states, tuple(sorted(set(states), key=lambda s: ("sd".index(s[0]), [-1 if e is None else e for e in s[1]]))))
            for state in states:
                family = fresh_family(custom, state)
                record = family.record
                self.assertIsNone(fresh_fault(custom, record))
                self.assertEqual(state_in(custom, record, family.label), state)
                self.assertTrue(record.is_alive(family.label))
                self.assertIsNone(record.mate_of(family.label))

    def test_deeds_lead_to_each_situation_of_a_couple(self):
        custom = Custom([Take("f", Never(), Number(2)), Take("m", Unborne()), Free()], [Take("f", Unborne(), Number(2)), Free()])
        couple = FreshCouple(FreshReads(custom), (0,), (0,))
        self.assertGreater(len(couple.situations), 40)
        for key, situation in couple.situations.items():
            at = (0, 0, (0, 0))
            for deed in deeds_to(situation):
                at = dict(couple.situations[at].deeds)[deed]
            self.assertEqual(at, key)
        self.assertEqual(sorted(couple.births(), key=repr), [("d", 0), ("d", None), ("s", 0), ("s", 1), ("s", None)])

    def test_deeds_are_written_out(self):
        writing = Writing(1)
        father, mother = writing.come("s"), writing.come("d")
        writing.wed(father, mother)
        deeds = [("born", "s", 0), ("born", "d", None), ("born", "s", 0), ("born", "d", 1), ("bearers", 0), ("born", "s", 0)]
        living = write_deeds(writing, father, mother, deeds, [("zz", 1)])
        record = writing.finished()
        children = record.children_of(father, mother)
        self.assertEqual([record.kind_of(child) for child in children], list("sdsds"))
        self.assertEqual(record.rows[7:9], (("dies", children[0]), ("dies", children[2])))
        self.assertEqual(living, [("zz", 1), (children[1], None), (children[3], 1), (children[4], 0)])
        self.assertEqual(len({row[3] if row[0] == "comes" else row[5] for row in record if row[0] in ("comes", "born")}), 7)
        writing.rows = [("comes", label_at(number), "s", number, (0,)) for number in range(5000)]
        self.assertEqual(len(writing.finished()), 5000)
        writing.rows.append(("dies", "aa"))
        self.refused(TooWide, ("rows",), writing.finished)

    def test_states_that_are_none(self):
        wrong = ODD_THINGS + (
            (), ("s",), ("s", (0, None), 1), ["s", (0, None)], ("s", [0, None]), ("s", (False, None)), ("s", (0, True)), ("s", (0, False)),
            ("d", (False,)), ("s", (0, 0)), ("s", (0,)), ("s", ()), ("s", (None, None)), ("s", (1, None)), ("s", (0, 2)), ("s", (0, -1)),
            ("s", (0, 1, None)), ("d", (0, None)), ("d", (0, 1)), ("d", (1,)), ("f", (0, None)), (None, (0,)), ("sd", (0,)), ("s", None), ("s", 0),
            ("s", "01"), ("s", (0, "1")), ("s", (0, 1.0)), ("s", (0, [])), (["s"], (0, 1)), AlwaysEqual(), ("s", AlwaysEqual()),
            (AlwaysEqual(), (0, 1)), ("s", (0, AlwaysEqual())), ("s", (0, 10 ** 400)), "s0", {"s": 1, "d": 2},
        )
        for state in wrong:
            self.refused(NoState, (state,), fresh_family, ELDEST, state)

    def test_by_chance_they_are_those_of_records(self):
        """What grown records show is among the states; for these customs all of them are shown."""
        rng = random.Random(82)
        customs = [ELDEST, Custom([Take("f", Unborne()), Free()], [Take("mf", Number(2)), Free()]),
                   Custom([Take("ff", Never()), Take("mm", Number(2)), Free()], [Take("m", Number(2)), Free("living")]),
                   Custom([Take("mmm"), Free()], [Take("fff"), Free()])]
        for custom in customs + [chance_ways_custom(rng) for _ in range(6)]:
            try:
                states = set(fresh_states(custom))
            except TooWide:
                continue
            shown = set()
            for world in grown_worlds(custom, rng, 25, 50):
                record = world.record()
                self.assertIsNone(fresh_fault(custom, record))
                shown |= {state_in(custom, record, label) for label in rng.sample(record.persons, min(12, len(record.persons)))}
            self.assertLessEqual(shown, states)
            if custom in customs:
                self.assertEqual(shown, states)
