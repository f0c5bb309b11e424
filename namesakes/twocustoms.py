"""Two customs side by side: records that keep a custom, and what each lets at a birth."""

from namesakes.clauses import Free
from namesakes.customs import Custom
from namesakes.errors import BadPair, BadWidth
from namesakes.naming import Naming
from namesakes.records import KINDS, Record
from namesakes.scopes import Scope
from namesakes.states import ONCE_BORNE
from namesakes.steps import case_of
from namesakes.walk import Walk


def keeps_custom(custom, record):
    """Whether the record fits and each child's name is its choice."""
    return record.width == custom.width and first_unkept(custom, record) is None


def write_choices(custom, record):
    """The record with the name of each child as its choice."""
    naming = Naming(custom, record)
    rows = []
    for row in record.rows:
        rows.append(row[:5] + (naming.given_of(row[4]),) if row[0] == "born" else row)
    return Record(record.width, rows)


def first_unkept(custom, record):
    """The first child whose choice the custom does not let, or None."""
    if record.width != custom.width:
        raise BadWidth(record.width)
    walk = Walk(custom)
    for row in record.rows:
        if row[0] == "born" and not custom.allows(walk.case_of(row[1], row[2], row[3]), row[5]):
            return row[4]
        walk.go(row)
    return None


def is_same_house(one, other):
    """Whether the two customs have one house rule."""
    return one.house == other.house and one.son_weds == other.son_weds and one.daughter_weds == other.daughter_weds


def check_pairs(first, customs):
    """Raise BadPair unless all these are customs of the first one's house rule."""
    for index, custom in enumerate(customs):
        if not isinstance(custom, Custom):
            raise BadPair(index, "custom")
        if not is_same_house(first, custom):
            raise BadPair(index, "house")


def take_sources(customs):
    """The sources of all Takes, sons ahead of daughters, each once."""
    found = {}
    for custom in customs:
        for take in custom.sons[:-1] + custom.daughters[:-1]:
            found[take.source] = True
    return tuple(found)


def sources_to_track(customs):
    """The sources of all Takes if a Free bars names of the couple's children, else none."""
    bars = [custom.clauses(kind)[-1].counts_children() for custom in customs for kind in KINDS]
    return take_sources(customs) if any(bars) else ()


def bars_differ(customs):
    """Whether "living" or "ever" stands in the Free of a kind of one custom and lacks in that of another."""
    for kind in KINDS:
        for word in ("living", "ever"):
            stands = [word in custom.clauses(kind)[-1].bars for custom in customs]
            if any(stands) and not all(stands):
                return True
    return False


def pair_scope(one, other):
    """The scope by which two customs of one house rule are compared; births are those of the first one."""
    customs = (one, other)
    check_pairs(one, customs)
    return Scope(one, other, tracked=sources_to_track(customs), followed=bars_differ(customs))


def let_names(scope, custom, couple, kind):
    """The class numbers that the custom lets at a birth in this state, None for a new name."""
    case = case_of(scope, couple, kind)
    numbers = list(range(couple.classes))
    # A followed name that no child has had is a new one.
    mark = couple.mark_of(couple.classes) if scope.followed else None
    if mark is not None and mark >= ONCE_BORNE:
        numbers.append(couple.classes)
    found = [number for number in numbers if custom.allows(case, number)]
    return tuple(found + [None] if custom(case).manner == Free.MANNER else found)
