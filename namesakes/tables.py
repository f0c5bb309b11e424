"""Tables: lots of states of one scope, and the least closed one."""

from namesakes.arrivals import all_arrivals
from namesakes.errors import BadTable
from namesakes.records import KINDS, is_sequence
from namesakes.scopes import Scope
from namesakes.states import CoupleState, PersonState, state_key

MOST_STATES = 1000


def _is_state(thing):
    return isinstance(thing, (PersonState, CoupleState))


def _has_places(scope, state):
    """Whether the state has as many names and lives as the scope reads."""
    kinds = (state.kind,) if isinstance(state, PersonState) else KINDS
    names = sum([len(scope.places(kind)) for kind in kinds])
    lives = sum([len(scope.life_ways(kind)) for kind in kinds])
    return len(state.names) == names and len(state.lives) == lives


def _check_states(scope, states):
    found = {}
    for index, state in enumerate(states):
        if not _is_state(state):
            raise BadTable(index, "state")
        if not _has_places(scope, state):
            raise BadTable(index, "places")
        key = state_key(state)
        if key in found:
            raise BadTable(index, "double")
        found[key] = True


class Table:
    """A lot of states of one scope."""

    def __init__(self, scope, states):
        if not isinstance(scope, Scope):
            raise BadTable(0, "scope")
        if not is_sequence(states):
            raise BadTable(0, "states")
        _check_states(scope, states)
        self.scope = scope
        self.persons = tuple([state for state in states if isinstance(state, PersonState)])
        self.couples = tuple([state for state in states if isinstance(state, CoupleState)])
        self.states = self.persons + self.couples
        self._found = {state_key(state): True for state in states}
        # Those of the least closed table, if this table was made from them.
        self._arrivals = None

    def keep_arrivals(self, arrivals):
        """Keep how its states come, so that this is not worked out again for each record."""
        self._arrivals = arrivals

    def arrivals(self):
        """How the states of the least closed table of the scope come."""
        if self._arrivals is None:
            return all_arrivals(self.scope, MOST_STATES)
        return self._arrivals

    def is_within(self, other):
        """Whether each state is one of the other table's."""
        return all([state in other for state in self.states])

    def without(self, state):
        """The table without that state."""
        return Table(self.scope, [other for other in self.states if not other == state])

    def __contains__(self, thing):
        return _is_state(thing) and state_key(thing) in self._found

    def __or__(self, other):
        """The table of the states of either, this one's first."""
        _check_scopes(self, other)
        return Table(self.scope, self.states + tuple([state for state in other.states if state not in self]))

    def __and__(self, other):
        """The table of the states of both."""
        _check_scopes(self, other)
        return Table(self.scope, [state for state in self.states if state in other])

    def __eq__(self, other):
        return type(self) is type(other) and self.scope == other.scope and self._found == other._found

    def __len__(self):
        return len(self.states)

    def __iter__(self):
        return iter(self.states)


def _check_scopes(one, other):
    if not one.scope == other.scope:
        raise BadTable(0, "scope")


def table_of(scope):
    """The least closed table of the scope."""
    arrivals = all_arrivals(scope, MOST_STATES)
    table = Table(scope, [arrivals[key].state for key in arrivals])
    table.keep_arrivals(arrivals)
    return table
