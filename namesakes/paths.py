"""Paths: records that lead to a state, and how they go on."""

from namesakes.errors import BadPlay, NeverComes, TooWide
from namesakes.plays import Play, as_child, come, follow, played_record, wed
from namesakes.records import MOST_ROWS
from namesakes.states import CoupleState, PersonState, state_key
from namesakes.steps import step_of


class Told:
    """A record that leads to a state, and which names and labels the state's are."""

    def __init__(self, state, record, labels, names, children=(), givens=(), marks=()):
        self.state = state
        self.record = record
        self.labels = labels
        self.names = names
        self.children = children
        self.givens = givens
        self.marks = marks


def record_of(table, state):
    """A record that leads to this state of the least closed table of the scope."""
    arrivals = table.arrivals()
    key = state_key(state) if isinstance(state, (PersonState, CoupleState)) else None
    if key not in arrivals:
        raise NeverComes(state)
    arrival = arrivals[key]
    if arrival.rows > MOST_ROWS:
        raise TooWide("rows")
    play = Play(table.scope)
    tops = []
    for deed in _in_order(arrival):
        _play_arrival(play, tops, deed)
    return _told(play, tops[0], play.marks)


def _in_order(arrival):
    """The arrival and all those ahead, the father's ahead of the mother's, this one last."""
    found = []
    waiting = [arrival]
    while waiting:
        last = waiting.pop()
        found.append(last)
        waiting.extend(last.ahead)
    found.reverse()
    return found


def _play_arrival(play, tops, arrival):
    """Put what arrives on the top of what it comes from."""
    deed = arrival.step.deed
    if deed[0] == "comes":
        tops.append(come(play, arrival.state))
    elif deed[0] == "weds":
        mother = tops.pop()
        father = tops.pop()
        tops.append(wed(play, father, mother, deed[1], arrival.state))
    else:
        ahead = tops.pop()
        top = follow(play, ahead, arrival.step)
        if deed[0] == "born" and isinstance(arrival.state, PersonState):
            top = as_child(play, top, ahead.state, arrival.state)
        tops.append(top)


def _told(play, top, marks):
    """What is told of the play at its end."""
    record = played_record(play)
    names = tuple([None if name is None else play.name_now(name) for name in top.names])
    givens = tuple([(label, play.name_now(play.givens[label])) for label in record.persons])
    return Told(top.state, record, top.labels, names, top.children, givens, tuple(marks))


def played_on(scope, told, deeds):
    """Go on behind what is told by deeds of following steps."""
    play = Play(scope)
    play.take_in(told.record, told.givens)
    top = told
    for index, deed in enumerate(deeds):
        step = step_of(scope, top.state, deed)
        if step is None or _is_barred(play, top, step):
            raise BadPlay(index)
        top = follow(play, top, step)
    return _told(play, top, told.marks)


def _is_barred(play, top, step):
    """Whether a Free leaves the child free, but a child of the record bears the name."""
    if step.deed[0] != "born" or step.deed[3] is None:
        return False
    custom = play.scope.custom_for(top.state, step.deed[1])
    clauses = custom.clauses(step.deed[1])
    if step.deed[2] < len(clauses) - 1:
        return False
    name = top.names[step.deed[3]]
    if "living" in clauses[-1].bars and play.living_bearers(top.children, name):
        return True
    borne = [child for child in top.children if play.name_now(play.givens[child]) == name]
    return "ever" in clauses[-1].bars and len(borne) > 0
