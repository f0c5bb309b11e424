"""Words of the lines along which a name comes down from a person."""

from namesakes.carriers import Carriers, line_machine
from namesakes.errors import BadOrigin
from namesakes.fresh import check_ways
from namesakes.records import is_kind

FOUNDER = "founder"
FREE = "free"
ANY = "any"


def check_origin(origin):
    """Raise BadOrigin unless it is a pair (how, kind)."""
    if not isinstance(origin, tuple) or len(origin) != 2 or not is_kind(origin[1]):
        raise BadOrigin(origin)
    if not isinstance(origin[0], str) or origin[0] not in (FOUNDER, FREE, ANY):
        raise BadOrigin(origin)


def line_words(custom, origin):
    """The machine of all lines at whose end a person has the name of one of this origin."""
    check_ways(custom)
    check_origin(origin)
    carriers = Carriers(custom)
    first = origin_carriers(carriers, origin)
    return line_machine(carriers, len(first) > 0, carriers.children_of(first, "s"), carriers.children_of(first, "d"))


def origin_carriers(carriers, origin):
    """The carriers of their own name that persons of this origin can be."""
    persons = origin_persons(carriers, origin)
    return [carriers.number_of(person.kind, person.entries, 0) for person in persons]


def origin_persons(carriers, origin):
    """A person of this origin of each state, as it comes with few rows."""
    how, kind = origin
    persons = carriers.world.persons[kind]
    if how == FOUNDER:
        return [person for person in persons if person.couple is None]
    if how == FREE:
        free = carriers.world.free
        return [free[kind, person.entries] for person in persons if (kind, person.entries) in free]
    return list(persons)
