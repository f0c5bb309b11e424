"""Choices: what the next child of a couple may be called, and records put right."""

from namesakes.errors import BadWidth
from namesakes.naming import birth_case
from namesakes.records import Record
from namesakes.walk import Walk


class Coming:
    """What is told of a birth ahead of it."""

    def __init__(self, clause, name, house, passed, barred):
        self.clause = clause
        self.name = name
        self.house = house
        self.passed = passed
        self.barred = barred


def _barred_names(bars, case):
    """The names that these bars bar, each once."""
    words = {"living": case.borne, "ever": case.ever}
    found = {}
    for bar in bars:
        for name in words[bar] if bar in words else (case.names.get(bar),):
            if name is not None:
                found[name] = True
    return tuple(found)


def next_child(naming, father, mother, kind):
    """What a child of this kind would be called, if it were born now."""
    case = birth_case(naming, father, mother, kind)
    custom = naming.custom
    named = custom(case)
    house = custom.house_at_birth(
        naming.house_of(father), naming.house_of(mother), naming.given_of(father), naming.given_of(mother)
    )
    barred = _barred_names(custom.clauses(kind)[-1].bars, case) if named.name is None else ()
    return Coming(named.index, named.name, house, named.passed, barred)


def settled_record(custom, record):
    """The record with each barred choice that counts replaced by the least name that is not barred."""
    if record.width != custom.width:
        raise BadWidth(record.width)
    walk = Walk(custom)
    rows = []
    for row in record.rows:
        settled = _settled_birth(custom, walk, row) if row[0] == "born" else row
        walk.go(settled)
        rows.append(settled)
    return Record(record.width, rows)


def _settled_birth(custom, walk, row):
    case = walk.case_of(row[1], row[2], row[3])
    if custom(case).name is not None:
        return row
    barred = _barred_names(custom.clauses(row[3])[-1].bars, case)
    if row[5] not in barred:
        return row
    return row[:5] + (least_other(barred),)


def least_other(names):
    """The least whole number that is none of these."""
    taken = {name: True for name in names}
    least = 0
    while least in taken:
        least += 1
    return least
