"""Words of the lines along which a name comes down from a person."""

from namesakes.carriers import Carriers, line_machine
from namesakes.errors import BadOrigin
from namesakes.fresh import check_ways
from namesakes.records import is_kind

FOUNDER = "founder"
FREE = "free"
ANY = "any"


def check_origin(origin):
    """Raise BadOrigin unless it is a pair (how, kind)."""
    if not isinstance(origin, tuple) or len(origin) != 2 or not is_kind(origin[1]):
        raise BadOrigin(origin)
    if not isinstance(origin[0], str) or origin[0] not in (FOUNDER, FREE, ANY):
        raise BadOrigin(origin)


def line_words(custom, origin):
    """The machine of all lines at whose end a person has the name of one of this origin."""
    check_ways(custom)
    check_origin(origin)
    carriers = Carriers(custom)
    first = origin_carriers(carriers, origin)
    return line_machine(carriers, len(first) > 0, carriers.children_of(first, "s"), carriers.children_of(first, "d"))


def origin_carriers(carriers, origin):
    """The carriers of their own name that persons of this origin can be."""
    how, kind = origin
    found = []
    for person in carriers.world.persons[kind]:
        is_founder = person.couple is None
        is_free = (kind, person.entries) in carriers.world.free
        if how == ANY or how == FOUNDER and is_founder or how == FREE and is_free:
            found.append(carriers.number_of(kind, person.entries, 0))
    return found
