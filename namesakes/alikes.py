"""Namesakes among the children of a couple, and the clauses that named somebody."""

from namesakes.customs import MOST_CLAUSES
from namesakes.records import KINDS


def _given_in_family(naming, label):
    """The parents and the given name: alike for namesakes of one couple alone."""
    record = naming.record
    return (record.father_of(label), record.mother_of(label), naming.given_of(label))


def namesakes_among(naming):
    """Pairs (one, other) of living children of one couple with one given name."""
    living = [label for label in naming.record.born if naming.record.is_alive(label)]
    groups = {}
    for label in living:
        groups.setdefault(_given_in_family(naming, label), []).append(label)
    met = {}
    pairs = []
    for one in living:
        key = _given_in_family(naming, one)
        met[key] = met.get(key, 0) + 1
        pairs.extend([(one, other) for other in groups[key][met[key]:]])
    return tuple(pairs)


def first_clash(naming):
    """(index, one, other) of the first birth that gives a living sibling's name, or None."""
    # Before the first clash no name has more than one living bearer in a family.
    bearers = {}
    for index, row in enumerate(naming.record.rows):
        if row[0] == "born":
            key = _given_in_family(naming, row[4])
            if key in bearers:
                return (index, bearers[key], row[4])
            bearers[key] = row[4]
        elif row[0] == "dies":
            key = _given_in_family(naming, row[1])
            if bearers.get(key) == row[1]:
                del bearers[key]
    return None


def clauses_used(naming):
    """Pairs (kind, index) of the clauses by which some child was named or left free."""
    used = {}
    for label in naming.record.born:
        used[naming.record.kind_of(label), naming.clause_of(label)] = True
    return tuple([(kind, index) for kind in KINDS for index in range(MOST_CLAUSES) if (kind, index) in used])
