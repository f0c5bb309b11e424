"""Records that are mirrored, renamed, relabelled, laid side by side or cut."""

from namesakes.errors import BadPairs
from namesakes.records import OTHER_KIND, Record, is_label, is_name, is_sequence


def mirror_record(record):
    """Exchange sons and daughters, fathers and mothers in each row."""
    return Record(record.width, [_mirrored_row(row) for row in record.rows])


def _mirrored_row(row):
    if row[0] == "comes":
        return (row[0], row[1], OTHER_KIND[row[2]], row[3], row[4])
    if row[0] == "weds":
        return (row[0], row[2], row[1])
    if row[0] == "born":
        return (row[0], row[2], row[1], OTHER_KIND[row[3]], row[4], row[5])
    return row


def rename_record(record, pairs):
    """Exchange names, all at once, by pairs (old, new)."""
    changes = _changes(pairs, is_name)
    _check_unlike(_names_in(record), changes)
    return Record(record.width, [_renamed_row(row, changes) for row in record.rows])


def relabel_record(record, pairs):
    """Exchange labels, all at once, by pairs (old, new)."""
    changes = _changes(pairs, is_label)
    _check_unlike(record.persons, changes)
    return Record(record.width, [_relabelled_row(row, changes) for row in record.rows])


def _changes(pairs, is_right):
    """The pairs as a dict, if all of them are pairs of the right things."""
    if not is_sequence(pairs):
        raise BadPairs("pairs")
    changes = {}
    for pair in pairs:
        if not is_sequence(pair) or len(pair) != 2 or not is_right(pair[0]) or not is_right(pair[1]):
            raise BadPairs("pair")
        if pair[0] in changes:
            raise BadPairs("double")
        changes[pair[0]] = pair[1]
    return changes


def _check_unlike(standing, changes):
    """Refuse changes by which unlike things that stand there become alike."""
    if len({changes.get(thing, thing) for thing in standing}) < len(standing):
        raise BadPairs("alike")


def _names_in(record):
    """The unlike names that stand in the rows."""
    found = {}
    for row in record.rows:
        if row[0] == "comes":
            for name in row[4] + (row[3],):
                found[name] = True
        elif row[0] == "born":
            found[row[5]] = True
    return list(found)


def _renamed_row(row, changes):
    if row[0] == "comes":
        house = tuple([changes.get(name, name) for name in row[4]])
        return (row[0], row[1], row[2], changes.get(row[3], row[3]), house)
    if row[0] == "born":
        return row[:5] + (changes.get(row[5], row[5]),)
    return row


def _relabelled_row(row, changes):
    labels = {"comes": (1,), "weds": (1, 2), "born": (1, 2, 4), "dies": (1,)}
    places = labels[row[0]]
    return tuple([changes.get(item, item) if place in places else item for place, item in enumerate(row)])


def records_beside(one, other):
    """The record of the rows of one and then those of other."""
    return one.after(*other.rows)


def cut_record(record, label):
    """The record of the rows that tell of the hearth of this person alone."""
    hearth = _hearth(record, label)
    return Record(record.width, [row for row in record.rows if _tells_of(row, hearth)])


def _tells_of(row, hearth):
    # Both who wed are in a hearth or neither is, and so are a child's parents.
    return (row[4] if row[0] == "born" else row[1]) in hearth


def _hearth(record, label):
    """A dict with the persons of the hearth as keys."""
    record.check_person(label)
    found = {label: True}
    waiting = [label]
    couples = {}
    while waiting:
        person = waiting.pop()
        near = list(record.mates_of(person))
        couple = (record.father_of(person), record.mother_of(person))
        # A couple's children are gathered once, not again for each of them.
        if couple[0] is not None and couple not in couples:
            couples[couple] = True
            near.extend(couple)
            near.extend(record.children_of(couple[0], couple[1]))
        for other in near:
            if other not in found:
                found[other] = True
                waiting.append(other)
    return found
