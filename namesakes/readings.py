"""Readings: the states of the persons and couples of a record at its end."""

from namesakes.errors import BadScope, NoCouple, NotUnwed
from namesakes.patterns import numbered
from namesakes.states import MOST_NUMBER, NEVER_BORNE, NOW_BORNE, ONCE_BORNE, CoupleState, PersonState


def _check_scope(scope):
    if scope.followed:
        raise BadScope("followed")


def person_state_of(scope, naming, label):
    """The state of an unwed living person."""
    _check_scope(scope)
    record = naming.record
    if not record.is_alive(label) or record.mate_of(label) is not None:
        raise NotUnwed(label)
    kind = record.kind_of(label)
    names = numbered(_names_of(scope, naming, label))
    return PersonState(kind, names, _lives_of(scope, record, label))


def _names_of(scope, naming, label):
    """The names at the places of a person that are read, None for nobody."""
    names = []
    for place in scope.places(naming.record.kind_of(label)):
        if place != "" and place[0] == ".":
            names.append(naming.house_of(label)[int(place[1])])
        else:
            elder = naming.record.elder_of(label, place)
            names.append(None if elder is None else naming.given_of(elder))
    return names


def _lives_of(scope, record, label):
    lives = []
    for way in scope.life_ways(record.kind_of(label)):
        elder = record.elder_of(label, way)
        if elder is None:
            lives.append(None)
        else:
            lives.append("alive" if record.is_alive(elder) else "dead")
    return lives


def couple_names(scope, naming, father, mother):
    """The names at the places of a couple that are read, the father's first, None for nobody."""
    return _names_of(scope, naming, father) + _names_of(scope, naming, mother)


def couple_state_of(scope, naming, father, mother):
    """The state of a couple."""
    _check_scope(scope)
    record = naming.record
    record.check_person(father)
    record.check_person(mother)
    if record.kind_of(father) != "s" or record.mate_of(father) != mother:
        raise NoCouple(father, mother)
    names = couple_names(scope, naming, father, mother)
    lives = _lives_of(scope, record, father) + _lives_of(scope, record, mother)
    kinds = [record.kind_of(child) for child in record.children_of(father, mother)]
    sons, daughters = [min(MOST_NUMBER, kinds.count(kind)) if scope.asks_number(kind) else 0 for kind in ("s", "d")]
    return CoupleState(numbered(names), lives, sons, daughters, _borne_of(scope, naming, father, mother))


def _borne_of(scope, naming, father, mother):
    """The tracked classes, and what the couple's children have borne of them."""
    names = couple_names(scope, naming, father, mother)
    sources = [f"f{place}" for place in scope.places("s")] + [f"m{place}" for place in scope.places("d")]
    numbers = dict(zip(sources, numbered(names)))
    children = naming.record.children_of(father, mother)
    ever = {naming.given_of(child): True for child in children}
    borne = {naming.given_of(child): True for child in children if naming.record.is_alive(child)}
    found = {}
    for source, name in zip(sources, names):
        if source in scope.reads.tracked and name is not None:
            once = ONCE_BORNE if name in ever else NEVER_BORNE
            found[numbers[source]] = NOW_BORNE if name in borne else once
    return [(number, found[number]) for number in sorted(found)]


def states_in(scope, naming):
    """Pairs (labels, state) of all unwed living persons and then of all couples."""
    _check_scope(scope)
    record = naming.record
    found = []
    for label in record.living:
        if record.mate_of(label) is None:
            found.append(((label,), person_state_of(scope, naming, label)))
    for father, mother in record.couples:
        found.append(((father, mother), couple_state_of(scope, naming, father, mother)))
    return tuple(found)
