"""Records as texts, there and back, and a table of the persons."""

from namesakes.errors import BadText
from namesakes.records import Record, is_row, record_fault

WIDTH_ROWS = ("width 0", "width 1", "width 2")
# So many digits has the greatest name.
MOST_DIGITS = 31


def record_text(record):
    """The text of a record, row by row."""
    return "\n".join([f"width {record.width}"] + [_row_text(row) for row in record.rows])


def _row_text(row):
    words = row[:4] + row[4] if row[0] == "comes" else row
    return " ".join([str(word) for word in words])


def parse_record(text):
    """The record whose text this is."""
    if not isinstance(text, str):
        raise BadText(0, "text")
    parts = text.split("\n")
    if parts[0] not in WIDTH_ROWS:
        raise BadText(1, "width")
    width = WIDTH_ROWS.index(parts[0])
    rows = [_row_of(part.split(" ")) for part in parts[1:]]
    for index, row in enumerate(rows):
        if not is_row(row):
            raise BadText(index + 2, "row")
    fault = record_fault(width, rows)
    if fault is not None:
        raise BadText(fault[0] + 2, fault[1])
    return Record(width, rows)


def _row_of(words):
    """The row that the words seem to tell; whether it is one is not asked here."""
    if words[0] == "comes":
        names = [_number_of(word) for word in words[3:]]
        return words[:3] + names[:1] + [names[1:]]
    if words[0] == "born":
        return words[:5] + [_number_of(word) for word in words[5:]]
    return words


def _number_of(word):
    """The number that the word writes, or None."""
    if not 1 <= len(word) <= MOST_DIGITS or not all(["0" <= digit <= "9" for digit in word]):
        return None
    if word[0] == "0" and len(word) > 1:
        return None
    return int(word)


def person_rows(record):
    """A string for each person: label, kind, father, mother, alive or dead."""
    rows = []
    for label in record.persons:
        father = record.father_of(label) or "-"
        mother = record.mother_of(label) or "-"
        life = "alive" if record.is_alive(label) else "dead"
        rows.append(f"{label:<6} {record.kind_of(label)} {father:>6} {mother:>6} {life:>5}")
    return tuple(rows)
