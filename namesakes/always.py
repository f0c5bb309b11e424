"""Children who always have an elder's name."""

from namesakes.errors import BadAsked
from namesakes.families import Always, Family
from namesakes.naming import Naming
from namesakes.papers import family_fault, is_table_of_reads, was_alive
from namesakes.paths import played_on, record_of
from namesakes.records import is_kind, is_way, is_whole
from namesakes.scopes import Scope
from namesakes.states import MOST_NUMBER, state_key
from namesakes.steps import birth_names, case_of, following_steps, is_untracked_choice
from namesakes.tables import table_of


class Asked:
    """Which births are asked: those of a kind, a number, and an elder's life."""

    def __init__(self, custom, kind, way, number, life):
        if not is_kind(kind):
            raise BadAsked("kind")
        if not is_way(way, 1, 2):
            raise BadAsked("way")
        if number is not None and not is_whole(number, 1, MOST_NUMBER + 1):
            raise BadAsked("number")
        if life is not None and not (isinstance(life, str) and life in ("alive", "dead")):
            raise BadAsked("life")
        self.kind = kind
        self.way = way
        self.number = number
        self.life = life
        self.scope = Scope(custom, also=(way,))

    def elder_name(self, scope, couple, born):
        """The class that the next child should have, if so many are born and it is asked, else None."""
        if self.number is not None and self.number != min(MOST_NUMBER, born) + 1:
            return None
        case = case_of(scope, couple, self.kind)
        if self.life is not None and case.lives.get(self.way) != self.life:
            return None
        return case.names.get(self.way)

    def is_unlike(self, scope, couple, born):
        """Whether the next child is asked and can have another name than its elder."""
        name = self.elder_name(scope, couple, born)
        if name is None:
            return False
        return any([given != name for given in birth_names(scope, couple, self.kind)])

    def born_behind(self, deed, born):
        """How many of the kind are born behind the deed, 3 for three or more."""
        return min(MOST_NUMBER, born + 1) if deed[0] == "born" and deed[1] == self.kind else born


class Count:
    """A couple's state, how many of the kind are born, and how that comes from a new couple."""

    def __init__(self, state, born, deed, ahead):
        self.state = state
        self.born = born
        self.deed = deed
        self.ahead = ahead

    def key(self):
        return (state_key(self.state), self.born)


def always_named(custom, kind, way, *, number=None, life=None):
    """Whether each child that is asked has its elder's name: a paper, or a family in which one has not."""
    asked = Asked(custom, kind, way, number, life)
    table = table_of(asked.scope)
    counts = _all_counts(asked, table)
    for count in counts:
        if asked.is_unlike(asked.scope, count.state, count.born):
            return _family_of(asked, table, count)
    return Always(table, tuple([(count.state, count.born) for count in counts]))


def _all_counts(asked, table):
    """What steps of a couple lead to from new ones, the nearest first."""
    waiting = [Count(state, 0, None, None) for state in table.couples if state.is_new]
    found = {count.key(): True for count in waiting}
    moves = _all_moves(asked.scope, table)
    at = 0
    while at < len(waiting):
        ahead = waiting[at]
        at += 1
        for deed, state in moves[state_key(ahead.state)]:
            count = Count(state, asked.born_behind(deed, ahead.born), deed, ahead)
            if count.key() not in found:
                found[count.key()] = True
                waiting.append(count)
    return waiting


def _all_moves(scope, table):
    return {state_key(couple): _couple_moves(scope, couple) for couple in table.couples}


def _couple_moves(scope, couple):
    """(deed, couple behind it) for all steps of a couple except a mate's death."""
    moves = []
    for step in following_steps(scope, couple):
        # A choice of a class that is not tracked leads to where a new name leads,
        # but a record may bar it when it is said again.
        if step.deed[0] != "mate" and not is_untracked_choice(scope, couple, step.deed):
            moves.append((step.deed, step.results[0]))
    return moves


def _family_of(asked, table, count):
    """A record in which the next child of this couple has another name than its elder."""
    deeds = [_unlike_birth(asked, count)]
    first = count
    while first.ahead is not None:
        deeds.append(first.deed)
        first = first.ahead
    deeds.reverse()
    told = played_on(asked.scope, record_of(table, first.state), deeds)
    child = told.children[-1]
    return Family(told.record, told.record.elder_of(child, asked.way), child)


def _unlike_birth(asked, count):
    name = asked.elder_name(asked.scope, count.state, count.born)
    for step in following_steps(asked.scope, count.state):
        if step.deed[0] == "born" and step.deed[1] == asked.kind and step.deed[3] != name:
            return step.deed
    return None


def always_fault(custom, kind, way, result, *, number=None, life=None):
    """What is wrong with a result of always_named, or None."""
    asked = Asked(custom, kind, way, number, life)
    if isinstance(result, Family):
        return _family_fault(custom, asked, result)
    if not is_table_of_reads(custom, result.table, asked.scope.reads):
        return "table"
    return _paper_fault(asked, result)


def _family_fault(custom, asked, family):
    what = family_fault(custom, family, asked.way)
    if what is not None:
        return what
    record, one, other = family.record, family.one, family.other
    if record.kind_of(other) != asked.kind:
        return "kind"
    if asked.number is not None and min(MOST_NUMBER + 1, record.number_of(other)) != asked.number:
        return "number"
    if asked.life is not None and (asked.life == "alive") != was_alive(record, one, other):
        return "life"
    naming = Naming(custom, record)
    return "names" if naming.given_of(one) == naming.given_of(other) else None


def _paper_fault(asked, paper):
    table = paper.table
    entries = [(state, born) for state, born in paper.counted if state in table]
    found = {(state_key(state), born): True for state, born in entries}
    for state in table.couples:
        if state.is_new and (state_key(state), 0) not in found:
            return "new"
    moves = _all_moves(table.scope, table)
    for state, born in entries:
        for deed, behind in moves[state_key(state)]:
            if (state_key(behind), asked.born_behind(deed, born)) not in found:
                return "step"
    for state, born in entries:
        if asked.is_unlike(table.scope, state, born):
            return "unlike"
    return None
