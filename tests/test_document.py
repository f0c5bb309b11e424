"""What the document promises over the whole program.

[0.4] nothing that is passed in is changed; [1.10] hearths; [3.13]; [4.10]; [5.8]; [9.12]; mirrored customs and
records; names led through a one to one change; texts read back.
"""

import copy
import itertools
import random

from namesakes.alikes import clauses_used, first_clash, namesakes_among
from namesakes.always import always_named
from namesakes.choices import next_child, settled_record
from namesakes.clauses import Free, Number, Take, Unlike
from namesakes.customs import Custom
from namesakes.customtext import parse_custom
from namesakes.degrees import can_be_namesakes, degrees
from namesakes.desk import Desk
from namesakes.elders import elder_namesakes
from namesakes.errors import BadChoice, TooWide
from namesakes.families import Endless, Family, Most
from namesakes.fillings import page_fillings, page_verdict
from namesakes.fresh import check_ways, state_in
from namesakes.hangs import Hanging, named_alone
from namesakes.joinings import all_joined, joining_of_names
from namesakes.kinwords import kin_words
from namesakes.lands import Land, LandNaming
from namesakes.lines import Line
from namesakes.linewords import line_words
from namesakes.mends import cheapest_mend, good_lots, least_mends
from namesakes.moved import cut_record, mirror_record, relabel_record, rename_record
from namesakes.naming import Naming, fits
from namesakes.patterns import Pattern, names_for, renaming_of
from namesakes.readings import states_in
from namesakes.records import Record
from namesakes.recordtext import parse_record, record_text
from namesakes.rings import most_namesakes
from namesakes.roots import Roots
from namesakes.scopes import Scope
from namesakes.siblings import sibling_namesakes
from namesakes.smudges import Page
from namesakes.states import CoupleState, PersonState
from namesakes.tables import table_of
from namesakes.twocustoms import first_unkept, keeps_custom, write_choices
from namesakes.unused import clause_use
from tests.checks import Checks
from tests.families import Family as PlainFamily
from tests.families import chance_custom, chance_record, sources
from tests.freshworlds import chance_ways_custom
from tests.plainlines import chance_lifeless

FREE = [Free()]
TURNED = {"s": "d", "d": "s"}


def turned_way(way):
    return way.translate(str.maketrans("fm", "mf"))


def asked(ask, *things, **named):
    try:
        return ask(*things, **named)
    except TooWide:
        return None


class MirrorTest(Checks):
    """Mirrored customs and records have mirrored answers."""

    def test_names(self):
        rng = random.Random(1)
        for _ in range(60):
            custom = chance_custom(rng, longest=3)
            record = chance_record(rng, custom, 20)
            naming = Naming(custom, record)
            back = Naming(custom.mirrored(), mirror_record(record))
            self.assertEqual(back, naming)
            self.assertEqual(namesakes_among(back), namesakes_among(naming))
            self.assertEqual(first_clash(back), first_clash(naming))
            self.assertEqual(sorted((TURNED[kind], index) for kind, index in clauses_used(back)), sorted(clauses_used(naming)))
            hanging, turned = Hanging(custom, record), Hanging(custom.mirrored(), mirror_record(record))
            self.assertEqual([hanging.on(index) for index in range(20)], [turned.on(index) for index in range(20)])
            self.assertEqual(Roots(custom.mirrored(), mirror_record(record)).roots, Roots(custom, record).roots)

    def test_what_all_families_have(self):
        rng = random.Random(2)
        many = 0
        for _ in range(25):
            custom = chance_custom(rng, most=1)
            back = custom.mirrored()
            for kind in "sd":
                one, other = asked(most_namesakes, custom, kind), asked(most_namesakes, back, TURNED[kind])
                self.assertEqual(type(one), type(other))
                if isinstance(one, Most):
                    self.assertEqual(one.number, other.number)
                for way in ("f", "m", "ff", "fm"):
                    self.assertEqual(type(asked(elder_namesakes, custom, way, kind)), type(asked(elder_namesakes, back, turned_way(way), TURNED[kind])))
                    self.assertEqual(type(asked(always_named, custom, kind, way)), type(asked(always_named, back, TURNED[kind], turned_way(way))))
            use, turned = asked(clause_use, custom), asked(clause_use, back)
            if use is not None:
                many += 1
                self.assertEqual(set(use.unused), {(TURNED[kind], index) for kind, index in turned.unused})
        self.assertGreater(many, 10)

    def test_ways(self):
        rng = random.Random(3)
        many = 0
        for _ in range(30):
            custom = chance_ways_custom(rng)
            try:
                check_ways(custom)
            except TooWide:
                continue
            many += 1
            back = custom.mirrored()
            words = ["".join(word) for size in range(4) for word in itertools.product("sd", repeat=size)]
            turned = [word.translate(str.maketrans("sd", "ds")) for word in words]
            for how, kind in itertools.product(("founder", "free", "any"), "sd"):
                one, other = line_words(custom, (how, kind)), line_words(back, (how, TURNED[kind]))
                self.assertEqual([word in one for word in words], [word in other for word in turned])
            for half in (False, True):
                self.assertEqual(degrees(custom, half=half), degrees(back, half=half))
                one, other = kin_words(custom, half=half), kin_words(back, half=half)
                pairs = [(rng.randrange(1, 15), rng.randrange(1, 15)) for _ in range(25)]
                self.assertEqual([one.lets(words[a], words[b]) for a, b in pairs], [other.lets(turned[a], turned[b]) for a, b in pairs])
                self.assertEqual([can_be_namesakes(custom, a, b, half=half) for a, b in pairs], [can_be_namesakes(back, b, a, half=half) for a, b in pairs])
        self.assertGreater(many, 10)


class RenameTest(Checks):
    """A custom only compares names: what holds of a record holds behind a one to one change."""

    def chance_change(self, rng, record):
        names = sorted({name for row in record for name in ((row[3], *row[4]) if row[0] == "comes" else row[5:])})
        return dict(zip(names, rng.sample(range(10 ** 6), len(names))))

    def test_records(self):
        rng = random.Random(4)
        for _ in range(60):
            custom = chance_custom(rng, longest=3)
            record = chance_record(rng, custom, 20)
            change = self.chance_change(rng, record)
            led = rename_record(record, list(change.items()))
            one, other = Naming(custom, record), Naming(custom, led)
            for label in one:
                self.assertEqual(other.given_of(label), change[one.given_of(label)])
                self.assertEqual(other.house_of(label), tuple(change[name] for name in one.house_of(label)))
                self.assertEqual((other.clause_of(label), other.passed_of(label)), (one.clause_of(label), one.passed_of(label)))
            self.assertEqual(namesakes_among(one), namesakes_among(other))
            self.assertEqual(keeps_custom(custom, record), keeps_custom(custom, led))
            self.assertEqual(first_unkept(custom, record), first_unkept(custom, led))
            scope = asked(Scope, custom)
            if scope is not None:
                self.assertEqual(states_in(scope, one), states_in(scope, other))
            labels = dict(zip(record.persons, rng.sample(record.persons, len(record.persons))))
            moved = Naming(custom, relabel_record(record, list(labels.items())))
            self.assertTrue(all(moved.given_of(labels[label]) == one.given_of(label) for label in one))

    def test_wrong_choices_stay_wrong(self):
        rng = random.Random(5)
        wrong = 0
        for _ in range(150):
            custom = chance_custom(rng)
            record = chance_record(rng, Custom(FREE, FREE, house=custom.house, son_weds=custom.son_weds, daughter_weds=custom.daughter_weds), 15, pool=3)
            led = rename_record(record, list(self.chance_change(rng, record).items()))
            self.assertEqual(fits(custom, record), fits(custom, led))
            wrong += not fits(custom, record)
            self.assertTrue(fits(custom, settled_record(custom, record)))
        self.assertGreater(wrong, 20)

    def test_rows_of_names(self):
        rng = random.Random(6)
        for _ in range(100):
            names = [rng.choice([None, *range(5)]) for _ in range(8)]
            pattern = Pattern.of_names(names)
            change = dict(zip(range(5), rng.sample(range(100), 5)))
            led = [None if name is None else change[name] for name in names]
            self.assertEqual(Pattern.of_names(led), pattern)
            self.assertEqual(dict(renaming_of(names, led)), {name: change[name] for name in names if name is not None})
            unlike = list(dict.fromkeys(name for name in names if name is not None))
            self.assertEqual(names_for(pattern, unlike), tuple(names))

    def test_rows_side_by_side_show_just_one_joining(self):
        # [4.10]
        for one, other in itertools.product(itertools.product((None, 1, 2), repeat=2), repeat=2):
            joining = joining_of_names(one, other)
            self.assertEqual(joining.joined, Pattern.of_names(one + other))
            patterns = [Pattern.of_names(one), Pattern.of_names(other)]
            self.assertEqual([pattern for pattern in all_joined(patterns)].count(joining.joined), 1)


class HearthTest(Checks):
    def test_nobody_elses_name_counts(self):
        # [1.10]
        rng = random.Random(7)
        for _ in range(60):
            custom = chance_custom(rng, longest=3)
            record = chance_record(rng, custom, 25)
            naming = Naming(custom, record)
            label = rng.choice(record.persons)
            cut = Naming(custom, cut_record(record, label))
            self.assertTrue(all(cut.given_of(who) == naming.given_of(who) and cut.house_of(who) == naming.house_of(who) for who in cut))


class AllRecordsTest(Checks):
    """[3.13]."""

    def records(self, seed, many):
        rng = random.Random(seed)
        for _ in range(many):
            custom = chance_custom(rng, longest=rng.choice([2, 3]))
            record = chance_record(rng, custom, 20)
            yield rng, custom, record, Naming(custom, record)

    def alike(self, one, other):
        for label in one:
            self.assertEqual((one.given_of(label), one.first_house_of(label)), (other.given_of(label), other.first_house_of(label)))

    def test_beginnings(self):
        for rng, custom, record, naming in self.records(8, 30):
            for many in range(len(record) + 1):
                self.alike(Naming(custom, record.until(many)), naming)

    def test_takes_lost_and_takes_more(self):
        lost = more = 0
        for rng, custom, record, naming in self.records(9, 120):
            used = clauses_used(naming)
            kept = {kind: [clause for index, clause in enumerate(custom.clauses(kind)[:-1]) if (kind, index) in used] + [custom.clauses(kind)[-1]] for kind in "sd"}
            rules = {"house": custom.house, "son_weds": custom.son_weds, "daughter_weds": custom.daughter_weds}
            self.alike(Naming(Custom(kept["s"], kept["d"], **rules), record), naming)
            lost += len(kept["s"]) < len(custom.sons)
            take = Take(rng.choice(sources(custom.width)), Number(rng.randint(1, 4)))
            at = rng.randrange(len(custom.sons))
            longer = Custom([*custom.sons[:at], take, *custom.sons[at:]], custom.daughters, **rules)
            try:
                other = Naming(longer, record)
            except BadChoice:
                continue
            if ("s", at) not in clauses_used(other):
                self.alike(other, naming)
                more += 1
        self.assertGreater(min(lost, more), 20)

    def test_further_births_and_deaths(self):
        couples = 0
        for rng, custom, record, naming in self.records(10, 60):
            if record.living:
                self.assertEqual(Naming(custom, record.after(("dies", rng.choice(record.living)))), naming)
            for father, mother in record.couples:
                couples += 1
                for kind in "sd":
                    coming = next_child(naming, father, mother, kind)
                    for choice in range(12):
                        row = ("born", father, mother, kind, "zzz", choice)
                        told = Naming(custom, record.after(row)) if choice not in coming.barred else None
                        if told is None:
                            self.refused(BadChoice, ("zzz", choice, PlainFamilyBar(custom, record, row).bar), Naming, custom, record.after(row))
                            continue
                        self.assertEqual(told.given_of("zzz"), choice if coming.name is None else coming.name)
                        self.assertEqual((told.first_house_of("zzz"), told.clause_of("zzz"), told.passed_of("zzz")), (coming.house, coming.clause, coming.passed))
        self.assertGreater(couples, 20)

    def test_named_alone(self):
        for rng, custom, record, naming in self.records(11, 30):
            for label in record.persons:
                self.assertEqual(named_alone(custom, record, label)[0], naming.given_of(label))


class PlainFamilyBar:
    """The first bar that bars the choice of a born row, told plainly."""

    def __init__(self, custom, record, row):
        family = PlainFamily(custom, record.rows)
        self.bar = None
        for index, bar in enumerate(custom.clauses(row[3])[-1].bars):
            names = {"living": family.borne, "ever": family.ever}[bar](*row[1:3]) if bar in ("living", "ever") else [family.name_at(row, bar)]
            if row[5] in names and self.bar is None:
                self.bar = index


class TextTest(Checks):
    def test_texts_read_back(self):
        rng = random.Random(12)
        for _ in range(60):
            custom = chance_custom(rng, longest=3, most=4)
            self.assertEqual((parse_custom(str(custom)), str(parse_custom(str(custom)))), (custom, str(custom)))
            record = chance_record(rng, custom, 15)
            self.assertEqual((parse_record(record_text(record)), record_text(parse_record(record_text(record)))), (record, record_text(record)))
            self.assertEqual(Naming(parse_custom(str(custom)), parse_record(record_text(record))), Naming(custom, record))


class LeadTest(Checks):
    """What one answer says of another."""

    def test_papers_and_records(self):
        rng = random.Random(13)
        told = 0
        for _ in range(30):
            custom = chance_custom(rng, most=1)
            results = [asked(sibling_namesakes, custom, "any"), asked(most_namesakes, custom)]
            if None in results:
                continue
            told += 1
            self.assertEqual(isinstance(results[0], Family), isinstance(results[1], Endless) or results[1].number > 1)
            # [9.1], [9.12] what is found keeps the custom when its choices are the names.
            record = results[0].record if isinstance(results[0], Family) else results[1].record
            written = write_choices(custom, record)
            self.assertTrue(keeps_custom(custom, written))
            self.assertEqual(Naming(custom, written), Naming(custom, record))
            for labels, state in states_in(Scope(custom), Naming(custom, record)):
                self.assertIn(state, table_of(Scope(custom)))
        self.assertGreater(told, 10)

    def test_a_new_take_that_names_nobody(self):
        custom = Custom([Take("f", Unlike("m", "m")), Free("living")], FREE)
        self.assertIn(("s", 0), clause_use(custom).unused)

    def test_verdicts_stand_for_all_records(self):
        # [10.7] for a question that compares names alone.
        custom = Custom([Take("ff"), Free("living")], FREE)
        rows = [("comes", "a", "s", 1, ()), ("comes", "b", "d", 2, ()), ("weds", "a", "b"), ("born", "a", "b", "s", "c", None), ("born", "a", "b", "s", "e", None)]
        page = Page(custom, rows)
        verdict = page_verdict(page, lambda naming: naming.given_of("c") == naming.given_of("e"))
        self.assertEqual(verdict.word, "never")
        for first, second in itertools.product(range(6), repeat=2):
            record = Record(0, rows[:3] + [rows[3][:5] + (first,), rows[4][:5] + (second,)])
            self.assertEqual(fits(custom, record), first != second)
        self.assertEqual(len(list(page_fillings(page))), 7)


class NothingChangesTest(Checks):
    """[0.4]."""

    def test_what_is_passed_in(self):
        takes, frees = [Take("ff", Number(1)), Free("ff")], [Free()]
        rows = [["comes", "a", "s", 1, [5]], ["comes", "b", "d", 2, [6]], ["weds", "a", "b"], ["born", "a", "b", "s", "c", 3], ["born", "a", "b", "s", "e", 4]]
        house, weds = [["f", 0]], ["own"]
        pool, prices = [["bar", "s", "living"], ["bar", "d", "ever"]], [1, 2]
        steps, pairs, order, second, seen = [["s", 1]], [[1, 9]], [1, 0, 2], ["a"], [["c", 3]]
        things = [takes, frees, rows, house, weds, pool, prices, steps, pairs, order, second, seen]
        before = copy.deepcopy([[str(thing) for thing in thing] for thing in things])
        custom = Custom(takes, frees, house=house, son_weds=weds, daughter_weds=weds)
        record = Record(1, rows)
        results = [
            Naming(custom, record), rename_record(record, pairs), Hanging(custom, record).reordered(order), LandNaming(Land(custom, custom, "father"), record, second),
            Line(custom, steps, steps), Page(custom, rows, seen), good_lots(custom, pool, "ss"), cheapest_mend(custom, pool, prices, "ss"),
        ]
        least_mends(custom, pool)
        Desk(results[5]).hear(["sees", "e", 4])
        self.assertEqual([[str(thing) for thing in thing] for thing in things], before)
        # Later changes to what was passed have no effect.
        looks = [custom.sons, custom.house, custom.son_weds, record.rows, results[3].second, results[4].start, results[4].again, results[5].rows, results[5].seen]
        kept = copy.copy([str(look) for look in looks])
        for thing in things:
            for item in thing:
                if isinstance(item, list):
                    item.clear()
            thing.clear()
        self.assertEqual([str(look) for look in looks], kept)
        self.assertEqual(results[0], Naming(custom, record))

    def test_objects_stay_as_they_are(self):
        rng = random.Random(14)
        custom = chance_lifeless(rng, 0)
        record = chance_record(rng, custom, 20)
        naming, text = Naming(custom, record), record_text(record)
        words = str(custom)
        for label in record.persons:
            named_alone(custom, record, label)
            cut_record(record, label)
            Roots(custom, record).chain(label)
        Hanging(custom, record).order_fault(range(20))
        write_choices(custom, record)
        for label in record.living:
            record.after(("dies", label))
        asked(sibling_namesakes, custom, "any")
        self.assertEqual((record_text(record), str(custom), Naming(custom, record)), (text, words, naming))

    def test_states_are_read_alone(self):
        custom = Custom([Take("f"), Free()], FREE)
        table = table_of(Scope(custom))
        states = list(table.states)
        sibling_namesakes(custom, "any")
        most_namesakes(custom)
        self.assertEqual((list(table.states), table), (states, table_of(Scope(custom))))
        self.assertTrue(all(isinstance(state, (PersonState, CoupleState)) for state in table))
        self.assertEqual(state_in(custom, Record(0, [("comes", "a", "s", 1, ())]), "a"), ("s", (0,)))
