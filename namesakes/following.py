"""Following a name that a living child of a couple bears, from step to step."""

from namesakes.plays import bear_again, follow
from namesakes.states import state_key
from namesakes.steps import following_steps, is_untracked_choice, step_of

# The name of a birth deed that gives the name of the child that is followed.
BEARER = "bearer"


def gives_again(custom, deed, name):
    """Whether the deed is a birth that gives the followed name again."""
    if deed[0] != "born" or deed[3] != name:
        return False
    clauses = custom.clauses(deed[1])
    return deed[2] < len(clauses) - 1 or not clauses[-1].counts_children()


def is_following(custom, deed, name):
    """Whether a step of a couple with this deed leaves a living bearer of the followed name alone.

    The name is a class of the couple, or None for a new name of an earlier child.
    """
    if deed[0] == "bearers":
        return deed[1] != name
    if deed[0] == "born" and name is not None and deed[3] == name:
        return gives_again(custom, deed, name)
    return deed[0] != "mate"


class Moves:
    """The couples of a closed table, each by a number, and where their steps lead.

    `behind` has for each couple (deed, number of the couple behind it) for all
    steps but a mate's death.
    """

    def __init__(self, table):
        self.scope = table.scope
        self.custom = table.scope.customs[0]
        self.couples = table.couples
        self._numbers = {state_key(couple): number for number, couple in enumerate(table.couples)}
        self.behind = [self._moves_of(couple) for couple in table.couples]

    def number_of(self, couple):
        return self._numbers[state_key(couple)]

    def _moves_of(self, couple):
        moves = []
        for step in following_steps(self.scope, couple):
            if step.deed[0] != "mate":
                moves.append((step.deed, self.number_of(step.results[0])))
        return moves

    def births(self, kinds):
        """(number of a couple, deed, number of the couple behind it) of all births of these kinds."""
        found = []
        for number, moves in enumerate(self.behind):
            found.extend([(number, deed, behind) for deed, behind in moves if deed[0] == "born" and deed[1] in kinds])
        return found

    def following(self, number, name):
        """(deed, number of the couple behind it) of the following steps from this couple.

        A class that is not tracked is left out, unless it is the followed one: a new
        name leads to the same couple, and no record bars it.
        """
        found = []
        for deed, behind in self.behind[number]:
            if is_following(self.custom, deed, name):
                is_plain = not is_untracked_choice(self.scope, self.couples[number], deed)
                if is_plain or deed[3] == name:
                    found.append((deed, behind))
        return found


class Follow:
    """A couple with a living bearer of a followed name, and the deed by which it comes to that.

    `before` is the couple ahead of the deed, `ahead` the Follow there; the deed is the
    bearer's birth if `ahead` is None. Couples are told by their numbers.
    """

    def __init__(self, name, couple, deed, before, ahead):
        self.name = name
        self.couple = couple
        self.deed = deed
        self.before = before
        self.ahead = ahead


def all_follows(moves, kinds):
    """All Follows of bearers of these kinds, each name and couple once, those with the fewest deeds first."""
    found = {}
    waiting = []
    for before, deed, behind in moves.births(kinds):
        if (deed[3], behind) not in found:
            found[deed[3], behind] = True
            waiting.append(Follow(deed[3], behind, deed, before, None))
    at = 0
    while at < len(waiting):
        ahead = waiting[at]
        at += 1
        for deed, behind in moves.following(ahead.couple, ahead.name):
            if (ahead.name, behind) not in found:
                found[ahead.name, behind] = True
                waiting.append(Follow(ahead.name, behind, deed, ahead.couple, ahead))
    return waiting


def spoken(custom, deed, name):
    """The deed as it is said: a birth that gives the followed name again says "bearer"."""
    return deed[:3] + (BEARER,) if gives_again(custom, deed, name) else deed


def way_to(moves, last):
    """(couple, deeds): the couple's state ahead of the bearer's birth, and the deeds from this birth on, as said."""
    deeds = []
    follow_now = last
    while follow_now.ahead is not None:
        deeds.append(spoken(moves.custom, follow_now.deed, last.name))
        follow_now = follow_now.ahead
    deeds.append(follow_now.deed)
    deeds.reverse()
    return moves.couples[follow_now.before], deeds


def is_bearer_birth(deed):
    """Whether the deed, any tuple, is a birth that gives the bearer's name."""
    if len(deed) != 4 or not isinstance(deed[0], str) or not isinstance(deed[3], str):
        return False
    return deed[0] == "born" and deed[3] == BEARER


def step_said(scope, state, deed, name):
    """The step of a couple in this state with this deed, which may say "bearer", or None."""
    return step_of(scope, state, deed[:3] + (name,) if is_bearer_birth(deed) else deed)


def go_with_bearer(play, top, deed, step, given):
    """Go on by a deed and its step; a birth that says "bearer" gives this name."""
    if is_bearer_birth(deed):
        return bear_again(play, top, step, given)
    return follow(play, top, step)
