"""Fillings: the records that a smudged page may be."""

from namesakes.choices import least_other
from namesakes.errors import BadChoice, BadFilling, NoPerson
from namesakes.naming import Naming
from namesakes.records import Record, is_label
from namesakes.walk import Walk


class Verdict:
    """Whether something is so in all records that may be a page, in none, or in some."""

    def __init__(self, word, one, other):
        self.word = word
        self.one = one
        self.other = other


def page_fault(page, record):
    """Why the record cannot be the page, or None."""
    if record.width != page.custom.width:
        return "width"
    if len(record.rows) != len(page.rows):
        return "rows"
    if not all([_is_like(page_row, row) for page_row, row in zip(page.rows, record.rows)]):
        return "row"
    try:
        naming = Naming(page.custom, record)
    except BadChoice:
        return "choice"
    seen = [naming.given_of(label) == name for label, name in page.seen]
    return None if all(seen) else "seen"


def _is_like(page_row, row):
    """Whether the row is the page's where that is not smudged."""
    if len(page_row) != len(row):
        return False
    return all([part is None or part == item for part, item in zip(page_row, row)])


def page_fillings(page):
    """All fillings, in order."""
    seen = dict(page.seen)
    rows = []
    yield from filled_records(page, seen, rows)


def filled_records(page, seen, done):
    """The records of all fillings that begin with these rows, for the seen names of this dict."""
    rows = list(done)
    walk = Walk(page.custom)
    for row in done:
        walk.go(row)
    while len(rows) < len(page.rows):
        ways = _ways_to_fill(page, seen, walk, rows)
        if len(ways) != 1:
            for way in ways:
                further = rows + [way]
                yield from filled_records(page, seen, further)
            return
        rows.append(ways[0])
        walk.go(ways[0])
    yield Record(page.custom.width, rows)


def _ways_to_fill(page, seen, walk, rows):
    """All rows that can stand behind these, as the page has them."""
    row = page.rows[len(rows)]
    if row[0] == "comes" and row[3] is None:
        return [row[:3] + (name, row[4]) for name in _names_at_hand(page, rows)]
    if row[0] != "born":
        return [row]
    couples = [(row[1], row[2])] if row[1] is not None else _couples_now(walk)
    found = []
    for father, mother in couples:
        filled = ("born", father, mother, row[3], row[4])
        found.extend([filled + (choice,) for choice in _choices(page, seen, walk, filled, row[5], rows)])
    return found


def _couples_now(walk):
    """The couples behind the rows gone so far, in the order of their weddings."""
    return [pair for pair in walk.children if pair[0] not in walk.dead and pair[1] not in walk.dead]


def _choices(page, seen, walk, row, choice, rows):
    """What can stand as the choice of this born row; `choice` is what the page has there."""
    case = walk.case_of(row[1], row[2], row[3])
    named = page.custom(case)
    wanted = seen.get(row[4])
    if named.name is not None:
        if wanted is not None and named.name != wanted:
            return []
        return [named.name if choice is None else choice]
    names = _names_at_hand(page, rows) if choice is None else [choice]
    if wanted is not None:
        names = [name for name in names if name == wanted]
    return [name for name in names if page.custom.barred(case, name) is None]


def _names_at_hand(page, rows):
    """What can stand at a smudged name behind these rows: written names, new ones so far, one more."""
    new = _new_names(page, rows)
    return list(page.written) + new + [least_other(list(page.written) + new)]


def _new_names(page, rows):
    """The names that stand in the rows and are not written, in order."""
    found = {}
    for row in rows:
        name = row[3] if row[0] == "comes" else row[-1]
        if row[0] in ("comes", "born") and name not in page.written:
            found[name] = True
    return list(found)


def how_many_fillings(page):
    """The number of fillings."""
    return len(list(page_fillings(page)))


def first_filling(page):
    """The first filling, or None."""
    for record in page_fillings(page):
        return record
    return None


def led_filling(page, record):
    """The filling to which the record is led by a one to one change of names that are not written."""
    what = page_fault(page, record)
    if what is not None:
        raise BadFilling(what)
    walk = Walk(page.custom)
    changes = {name: name for name in page.written}
    rows = []
    for page_row, row in zip(page.rows, record.rows):
        led = _led_row(page.custom, walk, changes, page_row, row)
        walk.go(led)
        rows.append(led)
    return Record(record.width, rows)


def _led_row(custom, walk, changes, page_row, row):
    """The row with new names at its smudges; what is new in it is put into the changes."""
    if row[0] == "comes" and page_row[3] is None:
        return row[:3] + (_changed(changes, row[3]), row[4])
    if row[0] == "born" and page_row[5] is None:
        named = custom(walk.case_of(row[1], row[2], row[3]))
        return row[:5] + (_changed(changes, row[5]) if named.name is None else named.name,)
    return row


def _changed(changes, name):
    """The name that stands for this one; a name met for the first time gets the least new one."""
    if name not in changes:
        changes[name] = least_other([changes[other] for other in changes])
    return changes[name]


def page_parents(page, label):
    """The couples that some filling gives to a child as its parents, in the order of their weddings."""
    if not is_label(label) or label not in page.children():
        raise NoPerson(label)
    found = {}
    for record in page_fillings(page):
        found[record.father_of(label), record.mother_of(label)] = True
    weddings = [(row[1], row[2]) for row in page.rows if row[0] == "weds"]
    return tuple([pair for pair in weddings if pair in found])


def page_verdict(page, question):
    """Whether it is so in all records that may be the page, in none or in some."""
    found = {}
    for record in page_fillings(page):
        answer = True if question(Naming(page.custom, record)) else False
        if answer not in found:
            found[answer] = record
        if len(found) == 2:
            return Verdict("open", found[True], found[False])
    if not found:
        return Verdict("none", None, None)
    return Verdict("surely" if True in found else "never", found.get(True), found.get(False))
