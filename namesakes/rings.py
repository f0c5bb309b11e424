"""Rings: how many living siblings can have one name, and deeds that give it again and again."""

from namesakes.bearings import bearing_of
from namesakes.errors import BadAsked, TooLong
from namesakes.families import Endless, Most
from namesakes.following import Moves, go_with_bearer, is_bearer_birth, step_said, way_to
from namesakes.naming import Naming
from namesakes.nets import Net
from namesakes.plays import Play, Top, played_record
from namesakes.readings import couple_names, couple_state_of
from namesakes.records import KINDS, MOST_ROWS, is_kind, is_whole
from namesakes.scopes import Scope
from namesakes.tables import table_of

MOST_TIMES = 10000


def kinds_counted(kind):
    """The kinds that count; raise BadAsked unless it is a kind or None."""
    if kind is None:
        return KINDS
    if not is_kind(kind):
        raise BadAsked("kind")
    return (kind,)


def most_namesakes(custom, kind=None):
    """The greatest number of living siblings of one name, or a ring by which there is none."""
    kinds = kinds_counted(kind)
    table = table_of(Scope(custom))
    net = Net(Moves(table), kinds)
    turn = net.endless_edge()
    if turn is None:
        return _most_of(table, net, kinds)
    return _endless_of(table, net, turn[0], turn[1])


def _most_of(table, net, kinds):
    prices = net.all_prices()
    # A bearer's birth counts, too; those at which the bearer is born have no Follow ahead.
    firsts = [number for number, node in enumerate(net.nodes) if node.ahead is None]
    greatest = max([prices[number] for number in firsts])
    best = [number for number in firsts if prices[number] == greatest][0]
    couple, deeds = way_to(net.moves, net.nodes[best])
    deeds = deeds + [edge.deed for edge in net.dearest_way(best, prices)]
    bearing = bearing_of(table, couple, deeds)
    bearers = [bearing.children[0]]
    births = [deed for deed in deeds if deed[0] == "born"]
    for child, deed in zip(bearing.children[1:], births[1:]):
        if is_bearer_birth(deed) and deed[1] in kinds:
            bearers.append(child)
    entries = []
    for node, price in zip(net.nodes, prices):
        entries.append((node.name, net.moves.couples[node.couple], price))
    return Most(greatest + 1, bearing.record, tuple(bearers), table, tuple(entries))


def _endless_of(table, net, node, edge):
    within, _ = net.way_within(edge.behind, {node: edge})
    ring = tuple([edge.deed] + [further.deed for further in within])
    couple, deeds = way_to(net.moves, net.nodes[node])
    bearing = bearing_of(table, couple, deeds)
    father, mother = bearing.labels
    return Endless(bearing.record, father, mother, bearing.children[0], ring)


def bearers_class(scope, naming, father, mother, bearer):
    """The class of the couple's state that is the bearer's name, or None."""
    top = couple_top(scope, naming, father, mother)
    given = naming.given_of(bearer)
    return top.names.index(given) if given in top.names else None


def couple_top(scope, naming, father, mother):
    """Where a play of the record stands, if it goes on with this couple."""
    state = couple_state_of(scope, naming, father, mother)
    names = {name: True for name in couple_names(scope, naming, father, mother) if name is not None}
    return Top(state, (father, mother), list(names), naming.record.children_of(father, mother))


def ring_said(custom, endless, times):
    """The record of an Endless, and behind it the deeds of its ring, said so many times."""
    if not is_whole(times, 0, MOST_TIMES):
        raise BadAsked("times")
    scope = Scope(custom)
    naming = Naming(custom, endless.record)
    top = couple_top(scope, naming, endless.father, endless.mother)
    given = naming.given_of(endless.bearer)
    name = bearers_class(scope, naming, endless.father, endless.mother, endless.bearer)
    play = Play(scope)
    play.take_in(endless.record, [(label, naming.given_of(label)) for label in naming.labels])
    # The ring leads back to where it begins, so its steps are the same each time.
    steps = []
    state = top.state
    for deed in endless.ring:
        steps.append(step_said(scope, state, deed, name))
        state = steps[-1].results[0]
    for _ in range(times):
        for deed, step in zip(endless.ring, steps):
            top = go_with_bearer(play, top, deed, step, given)
        if len(play.rows) > MOST_ROWS:
            raise TooLong(times)
    return played_record(play)
