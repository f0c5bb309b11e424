"""Pages for tests: by chance from a fixed seed, and gone through plainly."""

import itertools

from namesakes.clauses import Free
from namesakes.customs import Custom
from namesakes.errors import BadPage
from namesakes.naming import Naming, fits
from namesakes.records import Record
from namesakes.smudges import Page
from tests.families import chance_custom, chance_record

FREE = Custom([Free()], [Free()])


def chance_page(rng, many=9, seen=True):
    """A page that some record may be, unless a seen name is put in by chance."""
    while True:
        custom = chance_custom(rng, width=rng.choice([0, 0, 1]))
        record = chance_record(rng, custom, many, pool=rng.choice([2, 3, 6]))
        rows = smudged_rows(rng, record)
        naming = Naming(custom, record)
        pairs = []
        for child in record.born if seen else ():
            if rng.random() < 0.4 and len(pairs) < 3:
                pairs.append((child, naming.given_of(child) if rng.random() < 0.6 else rng.randrange(8)))
        try:
            page = Page(custom, rows, pairs)
        except BadPage:
            continue
        if page.smudges:
            return page


def smudged_rows(rng, record):
    """The rows, up to three things of which are smudged."""
    places = [(index, 3) for index, row in enumerate(record) if row[0] == "comes"]
    births = [index for index, row in enumerate(record) if row[0] == "born"]
    places += [(index, at) for index in births for at in (1, 5, 5)]
    rows = [list(row) for row in record]
    for index, at in rng.sample(places, min(len(places), rng.randint(1, 3))):
        rows[index][at] = None
        if at == 1:
            rows[index][2] = None
    return rows


def may_be(page, record):
    """Whether the record may be the page, read off plainly."""
    if record.width != page.custom.width or len(record) != len(page.rows):
        return False
    for told, row in zip(page.rows, record):
        if len(told) != len(row) or any(part is not None and part != item for part, item in zip(told, row)):
            return False
    if not fits(page.custom, record):
        return False
    naming = Naming(page.custom, record)
    return all(naming.given_of(label) == name for label, name in page.seen)


def records_of(page, names):
    """All records that may be the page with these names at its smudges, gone through plainly."""
    choices = []
    for index, smudge in page.smudges:
        if smudge == "parents":
            weddings = [row for row in page.rows[:index] if row[0] == "weds"]
            dead = {row[1] for row in page.rows[:index] if row[0] == "dies"}
            choices.append([row[1:] for row in weddings if not {row[1], row[2]} & dead])
        else:
            choices.append(names)
    for told in itertools.product(*choices):
        rows = [list(row) for row in page.rows]
        for (index, smudge), thing in zip(page.smudges, told):
            if smudge == "parents":
                rows[index][1:3] = thing
            else:
                rows[index][3 if smudge == "given" else 5] = thing
        record = Record(page.custom.width, rows)
        if may_be(page, record):
            yield record


def new_names(page, many):
    """The least names that are not written."""
    return [name for name in range(many + len(page.written)) if name not in page.written][:many]


def filling_of(page, record):
    """The filling to which the record is led, worked out plainly."""
    naming = Naming(page.custom, record)
    fresh = new_names(page, 5)
    pairs = {}
    rows = []
    for told, row in zip(page.rows, record):
        row = list(row)
        at = {"comes": 3, "born": 5}.get(row[0])
        if at is not None and told[at] is None:
            name = row[at] if row[0] == "comes" or naming.is_free(row[4]) else naming.given_of(row[4])
            if name not in page.written:
                name = pairs.setdefault(name, fresh[len(pairs)])
            row[at] = name
        rows.append(row)
    return Record(record.width, rows)
