"""Siblings: can two living children of one couple be namesakes?"""

from namesakes.bearings import bearing_of
from namesakes.errors import BadAsked
from namesakes.families import Family, NeverAlike
from namesakes.following import Moves, all_follows, gives_again, spoken, way_to
from namesakes.naming import Naming, fits
from namesakes.papers import is_custom_table, is_person
from namesakes.scopes import Scope
from namesakes.tables import table_of

# The kinds that the elder and the younger one may have, by the word that asks.
PAIRS = {
    "ss": (("s", "s"),),
    "dd": (("d", "d"),),
    "sd": (("s", "d"), ("d", "s")),
    "any": (("s", "s"), ("s", "d"), ("d", "s"), ("d", "d")),
}


def check_kinds(kinds):
    """Raise BadAsked unless this asks for kinds of siblings."""
    if not isinstance(kinds, str) or kinds not in PAIRS:
        raise BadAsked("kinds")


def _elder_kinds(kinds):
    return tuple({elder: True for elder, _ in PAIRS[kinds]})


def _younger_kinds(kinds, elder):
    """The kinds that the younger one may have, if the elder one has this kind."""
    return [younger for one, younger in PAIRS[kinds] if one == elder]


def sibling_namesakes(custom, kinds):
    """A family with living siblings who are namesakes, or why there is none."""
    check_kinds(kinds)
    table = table_of(Scope(custom))
    moves = Moves(table)
    followed = []
    for kind in _elder_kinds(kinds):
        for last in all_follows(moves, (kind,)):
            deed = _birth_again(moves, last.couple, last.name, _younger_kinds(kinds, kind))
            if deed is not None:
                return _family_of(table, moves, last, deed)
            followed.append((kind, last.name, moves.couples[last.couple]))
    return NeverAlike(table, tuple(followed))


def _birth_again(moves, couple, name, kinds):
    """The deed of a birth of one of these kinds that gives the name again, or None."""
    for deed, _ in moves.behind[couple]:
        if gives_again(moves.custom, deed, name) and deed[1] in kinds:
            return deed
    return None


def _family_of(table, moves, last, deed):
    """A family in which the name is followed up to there and then given again."""
    couple, deeds = way_to(moves, last)
    bearing = bearing_of(table, couple, deeds + [spoken(moves.custom, deed, last.name)])
    return Family(bearing.record, bearing.children[0], bearing.children[-1])


def siblings_fault(custom, kinds, result):
    """What is wrong with a result of sibling_namesakes, or None."""
    check_kinds(kinds)
    Scope(custom)
    if isinstance(result, Family):
        return _family_fault(custom, kinds, result)
    if not is_custom_table(custom, result.table):
        return "table"
    return _paper_fault(kinds, result)


def _family_fault(custom, kinds, family):
    record, one, other = family.record, family.one, family.other
    if not fits(custom, record):
        return "record"
    if not is_person(record, one) or not is_person(record, other) or one == other:
        return "persons"
    if not record.is_alive(one) or not record.is_alive(other):
        return "persons"
    if one not in record.siblings_of(other) or record.row_of(one) > record.row_of(other):
        return "siblings"
    if (record.kind_of(one), record.kind_of(other)) not in PAIRS[kinds]:
        return "kinds"
    naming = Naming(custom, record)
    return None if naming.given_of(one) == naming.given_of(other) else "names"


def _paper_fault(kinds, paper):
    moves = Moves(paper.table)
    entries = {}
    for kind, name, state in paper.followed:
        if state in paper.table:
            entries[kind, name, moves.number_of(state)] = True
    for _, deed, behind in moves.births(_elder_kinds(kinds)):
        if (deed[1], deed[3], behind) not in entries:
            return "first"
    for kind, name, couple in entries:
        for _, behind in moves.following(couple, name):
            if (kind, name, behind) not in entries:
                return "step"
    for kind, name, couple in entries:
        if _birth_again(moves, couple, name, _younger_kinds(kinds, kind)) is not None:
            return "again"
    return None
