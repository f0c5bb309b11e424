"""Fresh records with namesakes along one line, and with kin who are namesakes."""

from namesakes.carriers import Carriers
from namesakes.descents import Descents
from namesakes.errors import BadLength, NotLet
from namesakes.fresh import check_ways, fresh_fault
from namesakes.freshstates import Writing, write_person
from namesakes.kin import elders_of
from namesakes.linewords import FOUNDER, FREE, check_origin, origin_persons
from namesakes.machines import check_word
from namesakes.naming import Naming
from namesakes.papers import is_person
from namesakes.partings import full_kin, half_kin

MOST_WORD = 12


class WayFamily:
    """A fresh record in which the first and the last person of a line have one name."""

    def __init__(self, record, first, last):
        self.record = record
        self.first = first
        self.last = last


class KinFamily:
    """A fresh record in which two kin have one name, and the person behind whom their lines part."""

    def __init__(self, record, parting, one, other):
        self.record = record
        self.parting = parting
        self.one = one
        self.other = other


def _check_letters(word):
    if len(word) > MOST_WORD:
        raise BadLength(len(word))


def way_family(custom, origin, word):
    """A fresh record with such a person and a living namesake of it at the end of this line."""
    check_ways(custom)
    check_origin(origin)
    check_word(word)
    _check_letters(word)
    carriers = Carriers(custom)
    descents = Descents(carriers, word)
    best = None
    fewest = None
    for person in origin_persons(carriers, origin):
        carrier = carriers.number_of(person.kind, person.entries, 0)
        rows = descents.rows_from(0, carrier)
        if rows is not None and (best is None or person.rows + rows < fewest):
            best = person
            fewest = person.rows + rows
    if best is None:
        raise NotLet(word)
    writing = Writing(custom.width)
    first = write_person(writing, best)
    last = descents.write(writing, 0, carriers.number_of(best.kind, best.entries, 0), first)
    return WayFamily(writing.finished(), first, last)


def _is_fresh(custom, record):
    return record.width == custom.width and fresh_fault(custom, record) is None


def _is_origin(naming, origin, label):
    """Whether the person is of this origin."""
    how, kind = origin
    if naming.record.kind_of(label) != kind:
        return False
    if how == FOUNDER:
        return naming.record.father_of(label) is None
    return naming.is_free(label) if how == FREE else True


def _line_to(record, first, last, word):
    """The persons of the line from first down to last, if it is this word, else None."""
    line = [last]
    kinds = record.kind_of(first) + word
    for place in reversed(range(1, len(kinds))):
        below = line[-1]
        if record.kind_of(below) != kinds[place] or record.father_of(below) is None:
            return None
        line.append(record.father_of(below) if kinds[place - 1] == "s" else record.mother_of(below))
    line.reverse()
    return line if line[0] == first else None


def way_fault(custom, origin, word, family):
    """What is wrong with a result of way_family, or None."""
    check_ways(custom)
    check_origin(origin)
    check_word(word)
    record, first, last = family.record, family.first, family.last
    if not _is_fresh(custom, record):
        return "fresh"
    if not is_person(record, first) or not is_person(record, last):
        return "person"
    naming = Naming(custom, record)
    if not _is_origin(naming, origin, first):
        return "origin"
    if _line_to(record, first, last, word) is None:
        return "line"
    if naming.given_of(first) != naming.given_of(last):
        return "name"
    return None if record.is_alive(first) and record.is_alive(last) else "dead"


def kin_family(custom, one, other, *, half=False, living=False):
    """A fresh record with two such kin of one name."""
    check_ways(custom)
    check_word(one)
    check_word(other)
    _check_letters(one)
    _check_letters(other)
    if not one or not other:
        raise NotLet(one, other)
    carriers = Carriers(custom)
    kin = half_kin(carriers, one, other) if half else full_kin(carriers, one, other, living)
    if kin is None:
        raise NotLet(one, other)
    return KinFamily(kin.record, kin.parting, kin.one, kin.other)


def kin_fault(custom, one, other, family, *, half=False, living=False):
    """What is wrong with a result of kin_family, or None."""
    check_ways(custom)
    check_word(one)
    check_word(other)
    record = family.record
    if not _is_fresh(custom, record):
        return "fresh"
    for label in (family.parting, family.one, family.other):
        if not is_person(record, label):
            return "person"
    line = _line_to(record, family.parting, family.one, one)
    other_line = _line_to(record, family.parting, family.other, other)
    if line is None or other_line is None or not one or not other:
        return "line"
    if not _part_so(record, line[1], other_line[1], half):
        return "parting"
    if not _is_name_from_above(Naming(custom, record), family):
        return "name"
    if living and not (record.is_alive(family.one) and record.is_alive(family.other)):
        return "dead"
    return None


def _part_so(record, child, other, half):
    """Whether the first persons of the lines are two, and of one couple if full kin are asked, else of two."""
    if child == other:
        return False
    is_full = other in record.siblings_of(child)
    return not is_full if half else is_full


def _is_name_from_above(naming, family):
    """Whether both have one name, and it came in with the parting person or an elder of it."""
    name = naming.given_of(family.one)
    if naming.given_of(family.other) != name:
        return False
    # In a fresh record a name comes in with the first who bears it.
    first = [label for label in naming.labels if naming.given_of(label) == name][0]
    return first == family.parting or first in elders_of(naming.record, family.parting)
