"""Lines that go on for ever by steps that come again, and whose name each of their persons has."""

from math import lcm

from namesakes.customs import Custom
from namesakes.errors import BadGeneration, BadLine
from namesakes.generations import Generations
from namesakes.lengths import least_period
from namesakes.records import is_kind, is_sequence, is_whole

MOST_START = 6
MOST_AGAIN = 6
MOST_STEP = 4
MOST_GENERATION = (10 ** 60) ** 5


def _is_step(thing):
    return is_sequence(thing) and len(thing) == 2 and is_kind(thing[0]) and is_whole(thing[1], 1, MOST_STEP)


def _check_steps(steps, least, most, word):
    if not is_sequence(steps) or not least <= len(steps) <= most:
        raise BadLine(0, word)
    for index, step in enumerate(steps):
        if not _is_step(step):
            raise BadLine(index, f"{word} step")


def _check_custom(custom):
    if not isinstance(custom, Custom):
        raise BadLine(0, "custom")
    if any([len(clause.ways()) > 0 for clause in custom.sons + custom.daughters]):
        raise BadLine(0, "lives")


def check_generation(n):
    """Raise BadGeneration unless there is a person of this number."""
    if not is_whole(n, 1, MOST_GENERATION):
        raise BadGeneration(n)


def raised(origin, by):
    """The origin with its generation number raised, None for a name that couple 0 brought."""
    if origin[0] == "first":
        return None
    return (origin[0], origin[1] + by) + origin[2:]


class Line:
    """A line of a custom: the steps of `start`, and behind them those of `again` over and over."""

    def __init__(self, custom, start, again, *, elders=False):
        _check_custom(custom)
        _check_steps(start, 0, MOST_START, "start")
        _check_steps(again, 1, MOST_AGAIN, "again")
        self.custom = custom
        self.start = tuple([tuple(step) for step in start])
        self.again = tuple([tuple(step) for step in again])
        self.elders = elders
        self._settle()

    def _settle(self):
        """Go along the line until all that is to come is known."""
        generations = Generations(self.custom, self.elders)
        met = {}
        # Behind person n the number of the step of `again` and the names that are
        # alike tell all that comes, but for which names those are.
        n = 0
        key = None
        while key is None or key not in met:
            if key is not None:
                met[key] = n
            n += 1
            generations.go_on(self.step_at(n))
            if n > len(self.start):
                key = ((n - len(self.start)) % len(self.again), generations.pattern_at(n))
        first, many = met[key], n - met[key]
        self._clause_round = (first, many)
        period = many * _rounds_of_names(generations, first, n)
        # Behind as many rounds as a person has names each of them has either come
        # in since or is one of those that only change their places.
        behind = first + (generations.most_names() + 1) * many
        while n < behind + 2 * period:
            n += 1
            generations.go_on(self.step_at(n))
        self._keep(generations, behind, period)

    def _keep(self, generations, behind, period):
        """Keep the cycle, and the origins up to the end of the first settled one."""
        origins = generations.origins
        stays = {}
        found = []
        for n in range(behind, behind + period):
            stays[n] = origins[n] == origins[n + period]
            found.append((stays[n], origins[n] if stays[n] else raised(origins[n], -n)))
        self.cycle = least_period(found)
        self.stays = tuple(sorted({n % self.cycle for n in stays if stays[n]}))
        settled = behind
        while settled > 1 and self._is_settled(origins, settled - 1):
            settled = settled - 1
        self.settled = settled
        self._origins = origins[:settled + self.cycle]
        self._clauses = list(generations.clause_numbers)

    def _is_settled(self, origins, n):
        """Whether the name of person n is as its remainder tells that of the person a cycle later."""
        if n % self.cycle in self.stays:
            return origins[n + self.cycle] == origins[n]
        return origins[n + self.cycle] == raised(origins[n], self.cycle)

    def step_at(self, n):
        """The (kind, number) of person n."""
        check_generation(n)
        if n <= len(self.start):
            return self.start[n - 1]
        return self.again[(n - 1 - len(self.start)) % len(self.again)]

    def origin_at(self, n):
        """Where the given name of person n came into the line."""
        check_generation(n)
        if n < self.settled:
            return self._origins[n]
        early = self.settled + (n - self.settled) % self.cycle
        if n % self.cycle in self.stays:
            return self._origins[early]
        return raised(self._origins[early], n - early)

    def clause_at(self, n):
        """The index of the clause by which person n is named."""
        check_generation(n)
        first, many = self._clause_round
        if n <= first:
            return self._clauses[n]
        return self._clauses[first + 1 + (n - first - 1) % many]


def _rounds_of_names(generations, first, n):
    """Behind how many rounds all names that only change their places stand where they stood.

    One round leads from person `first` to person n.
    """
    before, behind = generations.names_at(first), generations.names_at(n)
    # For each name behind the round the place of the same one ahead of it, if it is no new one.
    came_from = [before.index(name) if name in before else None for name in behind]
    rounds = 1
    for place in range(len(came_from)):
        rounds = lcm(rounds, _way_back(came_from, place))
    return rounds


def _way_back(came_from, place):
    """The number of moves that lead from the place to itself, 1 if none do."""
    at = came_from[place]
    moves = 1
    while at is not None and at != place and moves <= len(came_from):
        at = came_from[at]
        moves += 1
    return moves if at == place else 1
