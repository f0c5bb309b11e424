"""The examples that stand in the document."""

import unittest

from namesakes.alikes import namesakes_among
from namesakes.allpatterns import all_patterns, how_many_patterns
from namesakes.changes import changed_custom
from namesakes.choices import next_child
from namesakes.clauses import Dead, Free, Never, Number, Take, Unborne
from namesakes.customs import Custom
from namesakes.degrees import can_be_namesakes, degrees
from namesakes.fillings import page_fillings, page_parents, page_verdict
from namesakes.hangs import Hanging
from namesakes.joinings import all_joinings, joining_at
from namesakes.kin import kinship_of
from namesakes.kinwords import kin_words
from namesakes.lands import Land, LandNaming
from namesakes.lines import Line
from namesakes.linewords import line_words
from namesakes.mends import cheapest_mend, good_lots, spoilers
from namesakes.moved import mirror_record
from namesakes.naming import Naming
from namesakes.paths import played_on, record_of
from namesakes.patterns import Pattern
from namesakes.reads import reads_of
from namesakes.records import Record, record_fault
from namesakes.recordtext import record_text
from namesakes.roots import Roots
from namesakes.scopes import Scope
from namesakes.smudges import Page
from namesakes.states import PersonState
from namesakes.steps import following_steps, founder_steps, wedding_steps
from namesakes.tables import table_of
from namesakes.within import Parted, are_alike, is_custom_within, within_fault


class ExamplesTest(unittest.TestCase):
    def test_records(self):
        rows = [("comes", "a", "s", 1, ()), ("comes", "b", "d", 2, ()), ("weds", "a", "b"), ("born", "a", "b", "s", "c", 3)]
        record = Record(0, rows)
        self.assertEqual(
            (record.couples, record.elder_of("c", "m"), record.number_of("c"), kinship_of(record, "c", "b")),
            ((("a", "b"),), "b", 1, ("m", "")),
        )
        self.assertEqual(record_fault(0, rows + [("born", "b", "a", "d", "e", 4)]), (4, "couple"))
        self.assertEqual(record_text(mirror_record(record)), "width 0\ncomes a d 1\ncomes b s 2\nweds b a\nborn b a d c 3")

    def test_reads(self):
        custom = Custom([Take("ff"), Free()], [Take("m.0", Never()), Free()], house=[("f", 0)],
                        son_weds=["own"], daughter_weds=[0])
        reads = reads_of(custom)
        self.assertEqual((reads.places("s"), reads.places("d"), reads.tracked), (("", "f", ".0"), (".0",), ("m.0",)))

    def test_naming(self):
        custom = Custom([Take("ff", Unborne()), Free("living")], [Take("mm"), Free("ever")])
        rows = [("comes", "a", "s", 1, ()), ("comes", "b", "d", 2, ()), ("weds", "a", "b"),
                ("born", "a", "b", "s", "c", 3), ("comes", "e", "d", 4, ()), ("weds", "c", "e"),
                ("born", "c", "e", "s", "g", 9), ("born", "c", "e", "s", "h", 5)]
        naming = Naming(custom, Record(0, rows))
        told = [(who, naming.given_of(who), naming.clause_of(who), naming.passed_of(who)) for who in ("c", "g", "h")]
        self.assertEqual(told, [("c", 3, 1, ("nobody",)), ("g", 1, 0, ()), ("h", 5, 1, (0,))])
        self.assertEqual(next_child(naming, "c", "e", "s").barred, (1, 5))

    def test_patterns(self):
        self.assertEqual([pattern.entries for pattern in all_patterns(3)],
                         [(0, 0, 0), (0, 0, 1), (0, 1, 0), (0, 1, 1), (0, 1, 2)])
        self.assertEqual((how_many_patterns(6), how_many_patterns(5, nobody=True)), (203, 203))

    def test_joinings(self):
        one, other = Pattern((0, 1, 0)), Pattern((0, None, 1))
        self.assertEqual([joining.links for joining in all_joinings(one, other)],
                         [(None, None), (None, 0), (None, 1), (0, None), (0, 1), (1, None), (1, 0)])
        self.assertEqual(joining_at(one, other, 5).joined.entries, (0, 1, 0, 1, None, 2))

    def test_steps(self):
        scope = Scope(Custom([Take("ff", Dead("ff"), Unborne()), Free("ff")], [Free()]))
        self.assertEqual([scope.places(kind) for kind in "sd"], [("", "f"), ()])
        self.assertEqual([scope.life_ways(kind) for kind in "sd"], [("f",), ()])
        states = [step.results[0] for step in founder_steps(scope)]
        self.assertEqual(states, [PersonState("s", (0, None), (None,)), PersonState("d", (), ())])
        couple = next(wedding_steps(scope, *states)).results[0]
        born = [step for step in following_steps(scope, couple) if step.deed[0] == "born"]
        self.assertEqual((born[0].deed, born[0].results[1]), (("born", "s", 1, 0), PersonState("s", (0, 0), ("alive",))))
        self.assertEqual((born[1].deed, born[1].results[1]), (("born", "s", 1, None), PersonState("s", (0, 1), ("alive",))))

    def test_tables(self):
        scope = Scope(Custom([Take("ff", Dead("ff"), Unborne()), Free("ff")], [Free()]))
        table = table_of(scope)
        daughters = [state for state in table.persons if state.kind == "d"]
        self.assertEqual(daughters, [PersonState("d", (), ())])
        self.assertIn(PersonState("s", (0, None), (None,)), table)
        couples = [step.results[0] for step in wedding_steps(scope, PersonState("s", (0, None), (None,)), daughters[0])]
        told = played_on(scope, record_of(table, couples[0]), (("born", "s", 1, 0), ("born", "s", 1, None)))
        naming = Naming(scope.customs[0], told.record)
        father = naming.given_of(told.labels[0])
        self.assertEqual([naming.given_of(child) == father for child in told.children], [True, False])

    def test_changes(self):
        custom = Custom([Take("ff", Number(3)), Free("living")], [Free()])
        pool = [("bar", "s", "ff"), ("number", "s", 0, None), ("unborne", "s", 0)]
        self.assertEqual(str(changed_custom(custom, pool)).split("\n")[2:4], ["take ff if unborne", "free not living, ff"])

    def test_pages(self):
        custom = Custom([Take("ff"), Free("living")], [Free()])
        page = Page(custom, [("comes", "a", "s", 1, ()), ("comes", "b", "d", 2, ()), ("weds", "a", "b"),
                             ("born", "a", "b", "s", "c", 3), ("comes", "e", "d", 4, ()), ("weds", "c", "e"),
                             ("born", None, None, "s", "g", None)], [("g", 1)])
        self.assertEqual(page.smudges, ((6, "parents"), (6, "choice")))
        self.assertEqual([record.rows[6] for record in page_fillings(page)],
                         [("born", "a", "b", "s", "g", 1), ("born", "c", "e", "s", "g", 1)])
        self.assertEqual(page_verdict(page, lambda naming: naming.clause_of("g") == 0).word, "open")
        self.assertEqual(page_parents(page.with_seen([("g", 3)]), "g"), ())

    def test_ways(self):
        custom = Custom([Take("ff", Number(1)), Free()], [Free()])
        self.assertEqual(line_words(custom, ("founder", "s")).rooms, ((True, 1, None), (False, 0, None)))
        self.assertEqual([(one.rooms, one == other, living) for one, other, living in kin_words(custom).products],
                         [(((False, 1, None), (False, 2, None), (True, 1, None)), True, True)])
        brothers = kin_words(Custom([Take("f", Unborne()), Free()], [Free()]))
        self.assertEqual((brothers.lets("s", "s"), brothers.lets("s", "s", living=True), brothers.lets("ss", "s", living=True)),
                         (True, False, True))
        told = degrees(custom)
        self.assertEqual((told.early, told.start, told.period, told.rest), ((), 0, 2, (1,)))
        self.assertEqual((degrees(custom, half=True).period, can_be_namesakes(custom, 10 ** 30, 3)), (1, False))

    def test_hangs(self):
        custom = Custom([Take("ff", Unborne()), Free("living")], [Take("mm"), Free("ever")])
        rows = [("comes", "a", "s", 1, ()), ("comes", "b", "d", 2, ()), ("weds", "a", "b"),
                ("born", "a", "b", "s", "c", 3), ("comes", "e", "d", 4, ()), ("weds", "c", "e"),
                ("born", "c", "e", "s", "g", 9), ("born", "c", "e", "s", "h", 5)]
        self.assertEqual(Hanging(custom, Record(0, rows)).on(7), (3, 4, 5, 6))

    def test_lines(self):
        custom = Custom([Take("ff", Number(1)), Take("f", Number(2)), Free()], [Free()])
        eldest, second = Line(custom, [], [("s", 1)]), Line(custom, [], [("s", 2)])
        self.assertEqual([eldest.origin_at(n) for n in (1, 2, 3, 4)], [("own", 1), ("first", "f"), ("own", 1), ("first", "f")])
        self.assertEqual((eldest.cycle, eldest.settled, eldest.stays), (2, 1, (0, 1)))
        self.assertEqual((second.origin_at(1), second.origin_at(10 ** 300), second.cycle, second.stays), (("first", "f"), ("first", "f"), 1, (0,)))
        daughters = Line(custom, [], [("d", 1)])
        self.assertEqual((daughters.origin_at(5), daughters.cycle, daughters.stays), (("own", 5), 1, ()))

    def test_two_customs(self):
        strict = Custom([Take("ff", Number(1)), Free("ff", "ever")], [Free("ff", "ever")])
        never = Custom([Take("ff", Never(), Number(1)), Free("ever", "ff")], [Free("ever", "ff")])
        loose = Custom([Take("ff", Number(1)), Free("ff")], [Free("ff", "ever")])
        self.assertEqual((are_alike(strict, never), is_custom_within(strict, loose), is_custom_within(loose, strict)), (True, True, False))
        rows = [("comes", "a", "s", 1, ()), ("comes", "b", "d", 2, ()), ("weds", "a", "b"),
                ("born", "a", "b", "s", "c", 3), ("born", "a", "b", "s", "e", 3)]
        self.assertIsNone(within_fault(loose, strict, Parted(Record(0, rows), 0)))
        land = Land(strict, strict.mirrored(), Land.CHILD)
        rows = rows[:4] + [("comes", "e", "d", 4, ()), ("weds", "c", "e"),
                           ("born", "c", "e", "d", "g", 1), ("born", "c", "e", "s", "h", 9)]
        naming = LandNaming(land, Record(0, rows), ("e",))
        self.assertEqual((naming.side_of("g"), naming.given_of("g"), naming.given_of("h"), namesakes_among(naming)), (1, 1, 1, (("g", "h"),)))

    def test_roots(self):
        custom = Custom([Take("ff", Unborne()), Free("living")], [Take("mm"), Free("ever")])
        rows = [("comes", "a", "s", 1, ()), ("comes", "b", "d", 2, ()), ("weds", "a", "b"),
                ("born", "a", "b", "s", "c", 3), ("comes", "e", "d", 4, ()), ("weds", "c", "e"),
                ("born", "c", "e", "s", "g", 9), ("born", "c", "e", "s", "h", 5)]
        self.assertEqual(Roots(custom, Record(0, rows)).chain("g"), ((6, "g", "given"), (0, "a", "given")))

    def test_mends(self):
        custom = Custom([Take("ff", Number(3)), Free("living")], [Free()])
        pool = [("bar", "s", "ff"), ("number", "s", 0, None), ("unborne", "s", 0)]
        self.assertEqual(good_lots(custom, pool, "ss"), ((0,), (2,), (0, 2), (1, 2), (0, 1, 2)))
        self.assertEqual([row[:2] for row in spoilers(custom, pool, "ss")], [((0,), 1)])
        self.assertEqual(cheapest_mend(custom, pool, (7, 1, 4), "ss"), (4, (2,)))
