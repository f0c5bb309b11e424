"""Within: whether every record that keeps one custom keeps another one, too."""

from namesakes.closing import leaving_step
from namesakes.paths import record_of
from namesakes.plays import Play, played_record
from namesakes.records import KINDS, is_whole
from namesakes.tables import table_of
from namesakes.twocustoms import first_unkept, keeps_custom, let_names, pair_scope


class Within:
    """A paper: every record that keeps the one keeps the other."""

    def __init__(self, table):
        self.table = table

    def __eq__(self, other):
        return type(self) is type(other) and self.table == other.table


class Alike:
    """A paper: just the same records keep both."""

    def __init__(self, table):
        self.table = table

    def __eq__(self, other):
        return type(self) is type(other) and self.table == other.table


class Parted:
    """A record at whose last birth one custom, that of the keeper, is kept and the other one not."""

    def __init__(self, record, keeper):
        self.record = record
        self.keeper = keeper

    def __eq__(self, other):
        return type(self) is type(other) and self.record == other.record and self.keeper == other.keeper


def within_custom(one, other):
    """Whether every record that keeps one keeps the other, or where they part."""
    table = table_of(pair_scope(one, other))
    birth = _first_unlet(table, one, other)
    if birth is None:
        return Within(table)
    return _parted_at(table, birth, one, other)


def alike_customs(one, other):
    """Whether just the same records keep both, or where they part."""
    table = table_of(pair_scope(one, other))
    birth = _first_unlet(table, one, other)
    if birth is not None:
        return _parted_at(table, birth, one, other)
    birth = _first_unlet(table, other, one)
    # As all that one lets the other lets, the record up to this birth keeps both.
    return Alike(table) if birth is None else Parted(_record_with_birth(table, birth), 1)


def _first_unlet(table, one, other):
    """(couple, kind, name) of a birth at which one lets a name that the other does not, or None."""
    for couple in table.couples:
        for kind in KINDS:
            let = let_names(table.scope, other, couple, kind)
            for name in let_names(table.scope, one, couple, kind):
                if name not in let:
                    return (couple, kind, name)
    return None


def _record_with_birth(table, birth):
    """A record that leads to a couple, with this birth behind it, whatever the customs let."""
    couple, kind, name = birth
    told = record_of(table, couple)
    play = Play(table.scope)
    play.take_in(told.record, told.givens)
    play.bear(told.labels, kind, play.new_name() if name is None else told.names[name])
    return played_record(play)


def _parted_at(table, birth, one, other):
    """The rows up to the first birth that the other does not let; one lets this one and all ahead."""
    record = _record_with_birth(table, birth)
    child = first_unkept(other, record)
    return Parted(record.until(record.row_of(child) + 1), 0)


def is_custom_within(one, other):
    """Whether every record that keeps one keeps the other."""
    return isinstance(within_custom(one, other), Within)


def are_alike(one, other):
    """Whether just the same records keep both."""
    return isinstance(alike_customs(one, other), Alike)


def within_fault(one, other, result):
    """What is wrong with a result of within_custom, or None."""
    scope = pair_scope(one, other)
    if isinstance(result, Within):
        return _paper_fault(scope, result.table, ((one, other),))
    if isinstance(result, Parted):
        return _parted_fault(one, other, result, 0)
    return "sort"


def alike_fault(one, other, result):
    """What is wrong with a result of alike_customs, or None."""
    scope = pair_scope(one, other)
    if isinstance(result, Alike):
        return _paper_fault(scope, result.table, ((one, other), (other, one)))
    if isinstance(result, Parted):
        return _parted_fault(one, other, result, 1)
    return "sort"


def _paper_fault(scope, table, pairs):
    """What is wrong with a table by which the first of each pair should be within the second."""
    if not table.scope == scope:
        return "scope"
    if leaving_step(table) is not None:
        return "step"
    births = [_first_unlet(table, one, other) for one, other in pairs]
    return "lets" if any([birth is not None for birth in births]) else None


def _parted_fault(one, other, parted, most_keeper):
    if not is_whole(parted.keeper, 0, most_keeper):
        return "keeper"
    record = parted.record
    if record.width != one.width:
        return "width"
    if not record.rows or record.rows[-1][0] != "born":
        return "last"
    ahead = record.shorter()
    if not keeps_custom(one, ahead) or not keeps_custom(other, ahead):
        return "ahead"
    kept = (keeps_custom(one, record), keeps_custom(other, record))
    return None if kept == (parted.keeper == 0, parted.keeper == 1) else "kept"
