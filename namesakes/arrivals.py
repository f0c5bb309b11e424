"""Arrivals: how each state that can come does so with the fewest rows."""

from heapq import heappop, heappush

from namesakes.errors import TooWide
from namesakes.records import KINDS, OTHER_KIND
from namesakes.states import PersonState, state_key
from namesakes.steps import following_steps, founder_steps, is_untracked_choice, wedding_steps


class Arrival:
    """A state, a step of which it is a result, and the arrivals of the states ahead.

    `rows` counts the deeds up to it, those of both sides of a wedding apart.
    """

    def __init__(self, state, step, ahead):
        self.state = state
        self.step = step
        self.ahead = ahead
        self.rows = 1 + sum([arrival.rows for arrival in ahead])


class Search:
    """The states met so far; those with the fewest rows settle first."""

    def __init__(self, most):
        self.most = most
        self.fewest = {}
        self.met = []
        self.queue = []
        self.settled = {}
        self.persons = {kind: [] for kind in KINDS}

    def meet(self, arrival):
        key = state_key(arrival.state)
        if key in self.fewest and self.fewest[key] <= arrival.rows:
            return
        self.fewest[key] = arrival.rows
        if len(self.fewest) > self.most:
            raise TooWide("states")
        heappush(self.queue, (arrival.rows, len(self.met)))
        self.met.append(arrival)

    def settle(self):
        """The next arrival that settles, or None for one whose state has settled."""
        _, number = heappop(self.queue)
        arrival = self.met[number]
        key = state_key(arrival.state)
        if key in self.settled:
            return None
        self.settled[key] = arrival
        if isinstance(arrival.state, PersonState):
            self.persons[arrival.state.kind].append(arrival)
        return arrival


def all_arrivals(scope, most):
    """The arrivals of the least closed table, as a dict by the keys of the states.

    It raises TooWide if there are more than so many states.
    """
    search = Search(most)
    for step in founder_steps(scope):
        search.meet(Arrival(step.results[0], step, ()))
    while search.queue:
        arrival = search.settle()
        if arrival is not None:
            _follow(scope, search, arrival)
            if isinstance(arrival.state, PersonState):
                _wed(scope, search, arrival)
    return search.settled


def _follow(scope, search, arrival):
    state = arrival.state
    for step in following_steps(scope, state):
        for result in step.results:
            # The couple comes as well by a birth with a new name. In its record
            # no child then bears a class that only the record would know of.
            if isinstance(result, PersonState) or not is_untracked_choice(scope, state, step.deed):
                search.meet(Arrival(result, step, (arrival,)))


def _wed(scope, search, arrival):
    for mate in search.persons[OTHER_KIND[arrival.state.kind]]:
        father, mother = (arrival, mate) if arrival.state.kind == "s" else (mate, arrival)
        for step in wedding_steps(scope, father.state, mother.state):
            search.meet(Arrival(step.results[0], step, (father, mother)))
