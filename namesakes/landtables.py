"""Lands in all families: namesakes among siblings, and lands within a custom."""

from namesakes.alikes import namesakes_among
from namesakes.closing import leaving_step
from namesakes.errors import BadChoice, BadSecond, BadWidth
from namesakes.lands import LandNaming
from namesakes.paths import played_on, record_of
from namesakes.records import KINDS, is_label
from namesakes.scopes import Scope
from namesakes.states import NOW_BORNE
from namesakes.steps import following_steps
from namesakes.tables import table_of
from namesakes.twocustoms import bars_differ, check_pairs, first_unkept, let_names, sources_to_track, take_sources
from namesakes.within import Within


class LandNever:
    """A paper: no two living children of one couple are ever namesakes in the land."""

    def __init__(self, table):
        self.table = table

    def __eq__(self, other):
        return type(self) is type(other) and self.table == other.table


class LandFamily:
    """A record, its founders on side 1, and two living siblings who are namesakes in the land."""

    def __init__(self, record, second, one, other):
        self.record = record
        self.second = second
        self.one = one
        self.other = other

    def __eq__(self, other):
        return (
            type(self) is type(other)
            and self.record == other.record
            and self.second == other.second
            and self.one == other.one
            and self.other == other.other
        )


class LandParted:
    """A record, its founders on side 1, whose last child has a name by the land that the custom does not let."""

    def __init__(self, record, second):
        self.record = record
        self.second = second

    def __eq__(self, other):
        return type(self) is type(other) and self.record == other.record and self.second == other.second


class LandScope(Scope):
    """What is read for the customs of a land and for more; the sides of the land are the marks."""

    def __init__(self, land, more, tracked, followed):
        customs = land.customs + more
        sources = tracked + tuple([source for source in sources_to_track(customs) if source not in tracked])
        Scope.__init__(self, *customs, tracked=sources, followed=followed)
        self.land = land
        self.asked = tracked

    def custom_for(self, couple, kind):
        """The custom of the side of a child of this kind of the couple."""
        return self.land.customs[self.land.side_of_child(kind, couple.marks)]

    def wedding_custom(self, kind, mark):
        """The custom by whose wedding rules a person of this kind and side weds."""
        return self.land.customs[mark]

    def first_marks(self, kind):
        """Founders of either side come."""
        return (0, 1)

    def child_mark(self, couple, kind):
        """The side of a child of this kind of the couple."""
        return self.land.side_of_child(kind, couple.marks)

    def __eq__(self, other):
        return (
            type(self) is type(other)
            and self.land == other.land
            and self.customs == other.customs
            and self.asked == other.asked
            and self.followed == other.followed
        )


def land_scope(land, *more, tracked=(), followed=False):
    """The scope of the customs of a land and of more, with sides as marks."""
    check_pairs(land.customs[0], more)
    return LandScope(land, more, tuple(tracked), followed)


def _siblings_scope(land):
    return land_scope(land, tracked=take_sources(land.customs), followed=True)


def _clash(table):
    """(couple, kind, class) of a birth that gives a living sibling's name, or None."""
    for couple in table.couples:
        for kind in KINDS:
            custom = table.scope.custom_for(couple, kind)
            for name in let_names(table.scope, custom, couple, kind):
                if name is not None and couple.mark_of(name) == NOW_BORNE:
                    return (couple, kind, name)
    return None


def _born_on(table, birth):
    """What is told behind a birth that the land lets to a couple of the table."""
    couple, kind, name = birth
    told = record_of(table, couple)
    deeds = [step.deed for step in following_steps(table.scope, couple)]
    deeds = [deed for deed in deeds if deed[0] == "born" and deed[1] == kind and deed[3] == name]
    return played_on(table.scope, told, deeds)


def _on_side_one(told, record):
    """The founders of the record whose mark is that of side 1."""
    sides = dict(told.marks)
    return tuple([label for label in record.founders if sides[label] == 1])


def land_siblings(land):
    """Whether two living siblings of the land can be namesakes: a family, or a paper that they never are."""
    table = table_of(_siblings_scope(land))
    birth = _clash(table)
    if birth is None:
        return LandNever(table)
    told = _born_on(table, birth)
    record, second = told.record, _on_side_one(told, told.record)
    other = told.children[-1]
    pairs = [pair for pair in namesakes_among(LandNaming(land, record, second)) if pair[1] == other]
    return LandFamily(record, second, pairs[0][0], other)


def land_siblings_fault(land, result):
    """What is wrong with a result of land_siblings, or None."""
    scope = _siblings_scope(land)
    if isinstance(result, LandNever):
        if not result.table.scope == scope:
            return "scope"
        if leaving_step(result.table) is not None:
            return "step"
        return None if _clash(result.table) is None else "clash"
    return _family_fault(land, result) if isinstance(result, LandFamily) else "sort"


def _family_fault(land, family):
    record = family.record
    try:
        naming = LandNaming(land, record, family.second)
    except (BadWidth, BadSecond, BadChoice):
        return "second"
    if not record.rows or record.rows[-1][0] != "born":
        return "last"
    if not is_label(family.other) or record.rows[-1][4] != family.other:
        return "last"
    return None if (family.one, family.other) in namesakes_among(naming) else "pair"


def land_within(land, custom):
    """Whether every record of the land, its choices the names, keeps the custom, or where they part."""
    check_pairs(land.customs[0], (custom,))
    customs = land.customs + (custom,)
    table = table_of(land_scope(land, custom, tracked=sources_to_track(customs), followed=bars_differ(customs)))
    birth = _unlet_by_custom(table, custom)
    if birth is None:
        return Within(table)
    told = _born_on(table, birth)
    child = first_unkept(custom, told.record)
    record = told.record.until(told.record.row_of(child) + 1)
    return LandParted(record, _on_side_one(told, record))


def _unlet_by_custom(table, custom):
    """(couple, kind, name) of a birth at which the land lets a name that the custom does not, or None."""
    for couple in table.couples:
        for kind in KINDS:
            let = let_names(table.scope, custom, couple, kind)
            for name in let_names(table.scope, table.scope.custom_for(couple, kind), couple, kind):
                if name not in let:
                    return (couple, kind, name)
    return None
