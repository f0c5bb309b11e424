"""Bearings: records of couples with a child whose name is followed from its birth on."""

from namesakes.following import go_with_bearer, step_said
from namesakes.paths import record_of
from namesakes.plays import Play, played_record


class Bearing:
    """A record, its couple, the children who were born behind the bearer's birth, the bearer first."""

    def __init__(self, record, labels, children):
        self.record = record
        self.labels = labels
        self.children = children


def bearing_of(table, couple, deeds):
    """The Bearing that leads to the couple's state and goes on by these deeds, the bearer's birth first."""
    scope = table.scope
    told = record_of(table, couple)
    play = Play(scope)
    play.take_in(told.record, told.givens)
    top = told
    name = deeds[0][3]
    given = None
    for deed in deeds:
        step = step_said(scope, top.state, deed, name)
        top = go_with_bearer(play, top, deed, step, given)
        if given is None:
            given = play.givens[top.children[-1]]
    children = top.children[len(told.children):]
    return Bearing(played_record(play), top.labels, children)
