"""Papers: what judges of papers and records ask everywhere."""

from namesakes.closing import leaving_step
from namesakes.naming import fits
from namesakes.records import is_label


def is_custom_table(custom, table):
    """Whether the table is closed, for this custom alone, and follows no name."""
    scope = table.scope
    if len(scope.customs) != 1 or not scope.customs[0] == custom or scope.followed:
        return False
    return leaving_step(table) is None


def is_table_of_reads(custom, table, reads):
    """Whether it is such a table and reads just this."""
    return table.scope.reads == reads and is_custom_table(custom, table)


def is_person(record, thing):
    return is_label(thing) and thing in record.persons


def family_fault(custom, family, way):
    """"record", "persons" or "elder": why one is no elder by this way in a family of the custom."""
    record = family.record
    if not fits(custom, record):
        return "record"
    if not is_person(record, family.one) or not is_person(record, family.other):
        return "persons"
    return None if record.elder_of(family.other, way) == family.one else "elder"


def was_alive(record, one, other):
    """Whether one lived when other was born."""
    return ("dies", one) not in record.rows[:record.row_of(other)]
