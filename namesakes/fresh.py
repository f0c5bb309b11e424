"""Fresh records: strangers' names are all unlike, and no kin wed."""

from namesakes.errors import BadWidth, NoWays
from namesakes.naming import Naming
from namesakes.patterns import numbered
from namesakes.reads import reads_of
from namesakes.walk import Walk


def check_ways(custom):
    """Raise NoWays or TooWide unless the custom can be asked here."""
    clauses = custom.sons + custom.daughters
    if any([len(clause.ways()) > 0 for clause in clauses]):
        raise NoWays("lives")
    if any(["." in source for clause in clauses for source in clause.sources()]):
        raise NoWays("houses")
    reads_of(custom).check_width()


def _name_that_comes_in(custom, walk, row):
    """The name that comes in with this row, or None."""
    if row[0] == "comes":
        return row[3]
    if row[0] == "born" and custom(walk.case_of(row[1], row[2], row[3])).name is None:
        return row[5]
    return None


def fresh_fault(custom, record):
    """(index, what) of the first row that is not that of a fresh record, or None."""
    check_ways(custom)
    if record.width != custom.width:
        raise BadWidth(record.width)
    walk = Walk(custom)
    borne = {}
    # The lineage of each person is one number with a bit for each member.
    lineages = {}
    for index, row in enumerate(record.rows):
        if row[0] == "weds" and lineages[row[1]] & lineages[row[2]]:
            return (index, "kin")
        name = _name_that_comes_in(custom, walk, row)
        if name is not None and name in borne:
            return (index, "name")
        walk.go(row)
        if row[0] == "comes":
            borne[row[3]] = True
            lineages[row[1]] = 1 << index
        elif row[0] == "born":
            borne[walk.givens[row[4]]] = True
            lineages[row[4]] = 1 << index | lineages[row[1]] | lineages[row[2]]
    return None


def places_of(custom, kind):
    """The places that a person of this kind brings, its own name first."""
    check_ways(custom)
    return ("",) + tuple([place for place in reads_of(custom).places(kind) if place != ""])


def state_in(custom, record, label):
    """(kind, entries) of a person: which names at its places are alike."""
    check_ways(custom)
    naming = Naming(custom, record)
    kind = record.kind_of(label)
    names = []
    for place in places_of(custom, kind):
        elder = record.elder_of(label, place)
        names.append(None if elder is None else naming.given_of(elder))
    return (kind, tuple(numbered(names)))
