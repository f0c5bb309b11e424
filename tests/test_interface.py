"""The interface: names, arguments, and methods in the class itself, each in its own file."""

import importlib
import inspect
import unittest

FUNCTIONS = {
    "records": ["is_whole(thing, low, high)", "is_name(thing)", "is_label(thing)", "is_kind(thing)", "is_way(thing, least, most)",
                "record_fault(width, rows)", "beginnings(record)"],
    "kin": ["ways_to(record, label)", "elders_of(record, label)", "are_kin(record, one, other)",
            "kinship_of(record, one, other)", "kin_weddings(record)"],
    "moved": ["mirror_record(record)", "rename_record(record, pairs)", "relabel_record(record, pairs)",
              "records_beside(one, other)", "cut_record(record, label)"],
    "recordtext": ["record_text(record)", "parse_record(text)", "person_rows(record)"],
    "reads": ["reads_of(*customs, names=(), lives=(), tracked=(), houses=False)"],
    "customtext": ["parse_custom(text)"],
    "naming": ["fits(custom, record)", "birth_case(naming, father, mother, kind)"],
    "patterns": ["is_finer(one, other)", "first_difference(pattern, names)", "names_for(pattern, names)", "renaming_of(one, other)"],
    "joinings": ["all_joinings(one, other)", "how_many_joinings(one, other)", "joining_index(joining)",
                 "joining_at(one, other, index)", "apart_joining(one, other)", "joining_of(one, other, pattern)",
                 "joining_of_names(one_names, other_names)", "all_joined(patterns)", "how_many_joined(patterns)"],
    "alikes": ["namesakes_among(naming)", "first_clash(naming)", "clauses_used(naming)"],
    "allpatterns": ["all_patterns(size, *, nobody=False)", "how_many_patterns(size, *, nobody=False)",
                    "pattern_index(pattern, *, nobody=False)", "pattern_at(size, index, *, nobody=False)",
                    "how_many_rows(pattern, pool)", "name_rows(pattern, names)"],
    "steps": ["founder_steps(scope)", "wedding_steps(scope, father, mother)", "following_steps(scope, state)",
              "case_of(scope, couple, kind)", "birth_names(scope, couple, kind)"],
    "tables": ["table_of(scope)"],
    "closing": ["leaving_step(table)", "is_closed(table)"],
    "paths": ["record_of(table, state)", "played_on(scope, told, deeds)"],
    "elders": ["elder_namesakes(custom, way, kind, *, full=False)", "elder_fault(custom, way, kind, result, *, full=False)"],
    "always": ["always_named(custom, kind, way, *, number=None, life=None)",
               "always_fault(custom, kind, way, result, *, number=None, life=None)"],
    "changes": ["changed_custom(custom, changes)"],
    "choices": ["next_child(naming, father, mother, kind)", "settled_record(custom, record)"],
    "fillings": ["page_fault(page, record)", "page_fillings(page)", "how_many_fillings(page)", "first_filling(page)",
                 "led_filling(page, record)", "page_parents(page, label)", "page_verdict(page, question)"],
    "clashes": ["least_clashes(page)", "greatest_lots(page)"],
    "fresh": ["fresh_fault(custom, record)", "places_of(custom, kind)", "state_in(custom, record, label)"],
    "freshstates": ["fresh_states(custom)", "fresh_family(custom, state)"],
    "linewords": ["line_words(custom, origin)"],
    "kinwords": ["kin_words(custom, *, half=False)"],
    "degrees": ["degrees(custom, *, half=False)", "can_be_namesakes(custom, up, down, *, half=False)"],
    "hangs": ["named_alone(custom, record, label)"],
    "twocustoms": ["keeps_custom(custom, record)", "write_choices(custom, record)", "first_unkept(custom, record)", "pair_scope(one, other)",
                   "let_names(scope, custom, couple, kind)"],
    "within": ["within_custom(one, other)", "alike_customs(one, other)", "is_custom_within(one, other)", "are_alike(one, other)",
               "within_fault(one, other, result)", "alike_fault(one, other, result)"],
    "landtables": ["land_scope(land, *more, tracked=(), followed=False)", "land_siblings(land)", "land_siblings_fault(land, result)",
                   "land_within(land, custom)"],
    "linepairs": ["parted_at(one, other)", "agreed_from(one, other)", "mirrored_line(line)"],
    "siblings": ["sibling_namesakes(custom, kinds)", "siblings_fault(custom, kinds, result)"],
    "mends": ["all_lots(many)", "good_lots(custom, pool, kinds='any')", "least_mends(custom, pool, kinds='any')",
              "mends_fault(custom, pool, kinds, mends)", "spoilers(custom, pool, kinds='any')",
              "cheapest_mend(custom, pool, prices, kinds='any')"],
    "readings": ["person_state_of(scope, naming, label)", "couple_state_of(scope, naming, father, mother)", "states_in(scope, naming)"],
    "rings": ["most_namesakes(custom, kind=None)", "ring_said(custom, endless, times)"],
    "ringjudge": ["most_fault(custom, kind, result)"],
    "unused": ["clause_use(custom)", "use_fault(custom, result)"],
    "wayfamilies": ["way_family(custom, origin, word)", "way_fault(custom, origin, word, family)",
                    "kin_family(custom, one, other, *, half=False, living=False)",
                    "kin_fault(custom, one, other, family, *, half=False, living=False)"],
    "lineforms": ["back_after(line, n)", "bearers_of(line, origin)", "lasting_origins(line)", "line_record(line, many)"],
}
CLASSES = {
    "records.Record": ["__init__(width, rows=())", "kind_of(label)", "father_of(label)", "mother_of(label)", "elder_of(label, way)",
                       "mate_of(label)", "mates_of(label)", "children_of(father, mother)", "siblings_of(label)",
                       "number_of(label)", "is_alive(label)", "row_of(label)", "after(*rows)", "until(many)", "shorter()",
                       "__eq__(other)", "__len__()", "__iter__()"],
    "clauses.Case": ["__init__(kind, number, names, lives, borne=(), ever=())"],
    "clauses.Number": ["__init__(n)", "holds(case, source)", "__eq__(other)", "__str__()"],
    "clauses.Alive": ["__init__(way)", "holds(case, source)", "__eq__(other)", "__str__()"],
    "clauses.Dead": ["__init__(way)", "holds(case, source)", "__eq__(other)", "__str__()"],
    "clauses.Unborne": ["holds(case, source)", "__eq__(other)", "__str__()"],
    "clauses.Never": ["holds(case, source)", "__eq__(other)", "__str__()"],
    "clauses.Unlike": ["__init__(one, other)", "holds(case, source)", "__eq__(other)", "__str__()"],
    "clauses.Take": ["__init__(source, *conditions)", "passed_over(case)", "__eq__(other)", "__str__()"],
    "clauses.Free": ["__init__(*bars)", "barred(case, name)", "__eq__(other)", "__str__()"],
    "customs.Named": ["__eq__(other)"],
    "customs.Custom": ["__init__(sons, daughters, *, house=(), son_weds=None, daughter_weds=None)", "__call__(case)", "clauses(kind)",
                       "wedding_rules(kind)", "barred(case, name)", "allows(case, name)",
                       "house_at_birth(father_house, mother_house, father_given, mother_given)",
                       "house_at_wedding(kind, own, mate)", "mirrored()", "__eq__(other)", "__str__()"],
    "reads.Reads": ["places(kind)", "life_ways(kind)", "too_wide()", "check_width()", "__eq__(other)"],
    "naming.Naming": ["__init__(custom, record)", "given_of(label)", "house_of(label)", "first_house_of(label)", "full_of(label)",
                      "passed_of(label)", "clause_of(label)", "is_free(label)", "__len__()", "__iter__()", "__eq__(other)"],
    "patterns.Pattern": ["__init__(entries)", "class_at(place)", "places_of(number)", "are_alike(one, other)", "at_places(places)",
                         "__or__(other)", "__and__(other)", "__eq__(other)", "__len__()", "__iter__()"],
    "joinings.Joining": ["__init__(one, other, links)", "number_in(number)", "turned()", "__eq__(other)"],
    "states.PersonState": ["__init__(kind, names, lives, mark=0)", "__eq__(other)"],
    "states.CoupleState": ["__init__(names, lives, sons, daughters, borne, marks=(0, 0))", "mark_of(class_number)", "__eq__(other)"],
    "scopes.Scope": ["__init__(*customs, also=(), tracked=(), houses=False, followed=False)", "places(kind)", "life_ways(kind)",
                     "asks_number(kind)", "custom_for(couple, kind)", "wedding_custom(kind, mark)", "first_marks(kind)",
                     "child_mark(couple, kind)", "__eq__(other)"],
    "steps.Step": ["__init__(deed, states, results)", "__eq__(other)"],
    "tables.Table": ["__init__(scope, states)", "is_within(other)", "without(state)", "__or__(other)", "__and__(other)",
                     "__eq__(other)", "__len__()", "__iter__()"],
    "families.Family": ["__init__(record, one, other)"],
    "families.NeverAlike": ["__init__(table, followed)"],
    "families.Most": ["__init__(number, record, bearers, table, prices)"],
    "families.Endless": ["__init__(record, father, mother, bearer, ring)"],
    "families.Always": ["__init__(table, counted)"],
    "families.ClauseUse": ["__init__(table, unused, used)"],
    "paths.Told": ["__init__(state, record, labels, names, children=(), givens=(), marks=())"],
    "choices.Coming": ["__init__(clause, name, house, passed, barred)"],
    "chronicle.Chronicle": ["__init__(custom)", "say(row)", "say_all(rows)", "take_back()", "trial()", "tried(call)", "__len__()",
                            "__iter__()"],
    "smudges.Page": ["__init__(custom, rows, seen=())", "children()", "with_seen(seen)", "__eq__(other)", "__len__()", "__iter__()"],
    "fillings.Verdict": ["__init__(word, one, other)"],
    "freshstates.PersonFamily": ["__init__(record, label)"],
    "lengths.Lengths": ["__init__(early, start, period, rest)", "__contains__(n)", "__eq__(other)"],
    "machines.Machine": ["__init__(rooms)", "lets(word)", "how_many(length)", "words_let(most)", "lengths()", "parting_word(other)",
                         "__contains__(word)", "__or__(other)", "__and__(other)", "__eq__(other)", "__len__()"],
    "kinwords.KinWords": ["__init__(half, products)", "lets(one, other, *, living=False)"],
    "desk.Desk": ["__init__(page)", "hear(notice)", "forget(notice)", "trial()", "tried(call)", "__len__()", "__iter__()"],
    "hangs.Hanging": ["__init__(custom, record)", "on(index)", "cone(index)", "order_fault(order)", "reordered(order)"],
    "lands.Land": ["__init__(one, other, decides)", "mirrored()", "__eq__(other)"],
    "lands.LandNaming": ["__init__(land, record, second=())", "side_of(label)", "given_of(label)", "clause_of(label)"],
    "within.Within": ["__init__(table)", "__eq__(other)"],
    "within.Alike": ["__init__(table)", "__eq__(other)"],
    "within.Parted": ["__init__(record, keeper)", "__eq__(other)"],
    "landtables.LandNever": ["__init__(table)", "__eq__(other)"],
    "landtables.LandFamily": ["__init__(record, second, one, other)", "__eq__(other)"],
    "landtables.LandParted": ["__init__(record, second)", "__eq__(other)"],
    "lines.Line": ["__init__(custom, start, again, *, elders=False)", "origin_at(n)", "step_at(n)", "clause_at(n)"],
    "lineforms.Bearers": ["__init__(numbers, remainders, cycle)", "__eq__(other)"],
    "lineforms.LineRecord": ["__init__(record, father, mates, persons)"],
    "mends.Mends": ["__init__(good, bad, unmade)"],
    "roots.Roots": ["__init__(custom, record)", "chain(label, what='given')", "root(label, what='given')", "bearers(root)"],
    "wayfamilies.WayFamily": ["__init__(record, first, last)"],
    "wayfamilies.KinFamily": ["__init__(record, parting, one, other)"],
}
CONSTANTS = {
    "records.MOST_ROWS": 5000, "records.MOST_NAME": 10 ** 30, "records.MOST_WIDTH": 2, "patterns.MOST_PLACES": 40,
    "allpatterns.MOST_POOL": 10 ** 6, "tables.MOST_STATES": 1000, "wayfamilies.MOST_WORD": 12,
    "lands.Land.FATHER": "father", "lands.Land.MOTHER": "mother", "lands.Land.CHILD": "child",
    "smudges.MOST_PAGE_ROWS": 60, "smudges.MOST_SMUDGES": 3, "smudges.MOST_SEEN": 5, "smudges.MOST_FILLINGS": 1000,
}
GENERATORS = ("records.beginnings", "joinings.all_joinings", "joinings.all_joined", "allpatterns.all_patterns",
              "allpatterns.name_rows", "steps.founder_steps", "steps.wedding_steps", "steps.following_steps",
              "fillings.page_fillings", "mends.all_lots")
PROPERTIES = ("patterns.Pattern.class_count", "joinings.Joining.link_count", "machines.Machine.first_word", "lengths.Lengths.nearest",
              "lengths.Lengths.farthest", "lengths.Lengths.is_endless")


def thing_at(path):
    module, *names = path.split(".")
    thing = importlib.import_module(f"namesakes.{module}")
    for name in names:
        thing = getattr(thing, name)
    return thing


class InterfaceTest(unittest.TestCase):
    def test_functions(self):
        for module, calls in FUNCTIONS.items():
            for call in calls:
                name = call.partition("(")[0]
                function = thing_at(f"{module}.{name}")
                self.assertEqual(name + str(inspect.signature(function)), call)
                self.assertEqual(function.__module__, f"namesakes.{module}")
                self.assertEqual(inspect.isgeneratorfunction(function), f"{module}.{name}" in GENERATORS, name)

    def test_classes(self):
        for path, methods in CLASSES.items():
            told = thing_at(path)
            self.assertEqual(told.__module__, f"namesakes.{path.partition('.')[0]}")
            for method in methods:
                name, _, rest = method.partition("(")
                signature = str(inspect.signature(vars(told)[name])).replace("(self, ", "(").replace("(self)", "()")
                self.assertEqual(signature, "(" + rest, path)

    def test_constants(self):
        for path, worth in CONSTANTS.items():
            self.assertEqual(thing_at(path), worth)

    def test_properties_and_static_methods(self):
        for path in PROPERTIES:
            name, _, worth = path.rpartition(".")
            self.assertIsInstance(vars(thing_at(name))[worth], property)
        self.assertIsInstance(vars(thing_at("patterns.Pattern"))["of_names"], staticmethod)

    def test_methods_that_generate(self):
        self.assertTrue(inspect.isgeneratorfunction(vars(thing_at("machines.Machine"))["words_let"]))

    def test_membership(self):
        self.assertIn("__contains__", vars(thing_at("tables.Table")))
