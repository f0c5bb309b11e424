"""Living elders: can a child be a namesake of one at its birth?"""

from namesakes.errors import BadAsked
from namesakes.families import Family, NeverAlike
from namesakes.naming import Naming
from namesakes.papers import family_fault, is_table_of_reads, was_alive
from namesakes.paths import played_on, record_of
from namesakes.records import is_kind, is_way
from namesakes.scopes import Scope
from namesakes.steps import case_of, following_steps
from namesakes.tables import table_of


def _scope_asked(custom, way, kind, full):
    if not is_way(way, 1, 1 if full else 2):
        raise BadAsked("way")
    if not is_kind(kind):
        raise BadAsked("kind")
    return Scope(custom, also=(way,), houses=full)


def elder_namesakes(custom, way, kind, *, full=False):
    """A family in which a child is its living elder's namesake at its birth, or why there is none."""
    scope = _scope_asked(custom, way, kind, full)
    table = table_of(scope)
    for couple in table.couples:
        deed = _namesake_birth(scope, couple, way, kind, full)
        if deed is not None:
            told = played_on(scope, record_of(table, couple), (deed,))
            child = told.children[-1]
            return Family(told.record, told.record.elder_of(child, way), child)
    return NeverAlike(table, ())


def _namesake_birth(scope, couple, way, kind, full):
    """The deed of a birth of this kind that gives the living elder's name, or None."""
    case = case_of(scope, couple, kind)
    name = case.names.get(way)
    if name is None or case.lives.get(way) != "alive":
        return None
    if full and not _has_parents_house(scope, couple, case, way):
        return None
    for step in following_steps(scope, couple):
        if step.deed[0] == "born" and step.deed[1] == kind and step.deed[3] == name:
            return step.deed
    return None


def _has_parents_house(scope, couple, case, parent):
    """Whether the child gets the very house names of this parent."""
    houses = {}
    for letter in ("f", "m"):
        houses[letter] = tuple([case.names.get(f"{letter}.{place}") for place in range(scope.width)])
    custom = scope.custom_for(couple, case.kind)
    return custom.house_at_birth(houses["f"], houses["m"], case.names.get("f"), case.names.get("m")) == houses[parent]


def elder_fault(custom, way, kind, result, *, full=False):
    """What is wrong with a result of elder_namesakes, or None."""
    scope = _scope_asked(custom, way, kind, full)
    if isinstance(result, Family):
        return _family_fault(custom, way, kind, result, full)
    if not is_table_of_reads(custom, result.table, scope.reads):
        return "table"
    births = [_namesake_birth(result.table.scope, couple, way, kind, full) for couple in result.table.couples]
    return "again" if any([deed is not None for deed in births]) else None


def _family_fault(custom, way, kind, family, full):
    what = family_fault(custom, family, way)
    if what is not None:
        return what
    record, one, other = family.record, family.one, family.other
    if not was_alive(record, one, other):
        return "elder"
    if record.kind_of(other) != kind:
        return "kind"
    naming = Naming(custom, record.until(record.row_of(other) + 1))
    if naming.given_of(one) != naming.given_of(other):
        return "names"
    # The child's house names are those of its birth still, the parent's those of this time.
    return "names" if full and naming.house_of(one) != naming.house_of(other) else None
