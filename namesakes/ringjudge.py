"""The judge of how many living siblings can have one name."""

from namesakes.families import Most
from namesakes.following import Moves, gives_again, is_bearer_birth, is_following, step_said
from namesakes.naming import Naming, fits
from namesakes.nets import counts_again
from namesakes.papers import is_custom_table, is_person
from namesakes.readings import couple_state_of
from namesakes.rings import bearers_class, kinds_counted
from namesakes.scopes import Scope
from namesakes.steps import is_untracked_choice


def most_fault(custom, kind, result):
    """What is wrong with a result of most_namesakes, or None."""
    kinds = kinds_counted(kind)
    scope = Scope(custom)
    if not fits(custom, result.record):
        return "record"
    if not isinstance(result, Most):
        return _endless_fault(custom, scope, kinds, result)
    if not _are_bearers(custom, kinds, result):
        return "bearers"
    if not is_custom_table(custom, result.table):
        return "table"
    return _prices_fault(custom, kinds, result)


def _are_bearers(custom, kinds, most):
    """Whether they are so many living children of one couple who count and have one name, in order."""
    record, bearers = most.record, most.bearers
    if len(bearers) != most.number or not bearers or not all([is_person(record, label) for label in bearers]):
        return False
    rows = [record.row_of(label) for label in bearers]
    if rows != sorted({row for row in rows}):
        return False
    first = bearers[0]
    if not all([label in record.siblings_of(first) for label in bearers[1:]]) or record.father_of(first) is None:
        return False
    naming = Naming(custom, record)
    for label in bearers:
        if not record.is_alive(label) or record.kind_of(label) not in kinds:
            return False
        if naming.given_of(label) != naming.given_of(first):
            return False
    return True


def _is_price(thing):
    return isinstance(thing, int) and not isinstance(thing, bool) and thing >= 0


def _prices_fault(custom, kinds, most):
    moves = Moves(most.table)
    prices = {}
    for name, state, price in most.prices:
        # Of several entries with one name and state the first counts.
        if state in most.table:
            prices.setdefault((name, moves.number_of(state)), price)
    if not all([_is_price(prices[node]) for node in prices]):
        return "price"
    for _, deed, behind in moves.births(kinds):
        price = prices.get((deed[3], behind))
        if price is None or price + 1 > most.number:
            return "first"
    for name, couple in prices:
        for deed, behind in moves.following(couple, name):
            price = prices.get((name, behind))
            again = 1 if counts_again(custom, kinds, deed, name) else 0
            if price is None or price + again > prices[name, couple]:
                return "step"
    return None


def _endless_fault(custom, scope, kinds, endless):
    record, father, mother = endless.record, endless.father, endless.mother
    if (father, mother) not in record.couples:
        return "couple"
    bearer = endless.bearer
    if bearer not in record.children_of(father, mother) or not record.is_alive(bearer):
        return "bearer"
    if record.kind_of(bearer) not in kinds:
        return "bearer"
    naming = Naming(custom, record)
    first = couple_state_of(scope, naming, father, mother)
    name = bearers_class(scope, naming, father, mother, bearer)
    state = first
    for deed in endless.ring:
        step = _ring_step(custom, scope, state, deed, name)
        if step is None:
            return "deed"
        state = step.results[0]
    if not any([is_bearer_birth(deed) and deed[1] in kinds for deed in endless.ring]):
        return "counted"
    return None if state == first else "ring"


def _ring_step(custom, scope, state, deed, name):
    """The step of a deed that a ring may have in this state, or None."""
    step = step_said(scope, state, deed, name)
    if step is None or not is_following(custom, step.deed, name):
        return None
    if is_bearer_birth(deed) and not gives_again(custom, step.deed, name):
        return None
    if is_untracked_choice(scope, state, step.deed) and custom.clauses(step.deed[1])[-1].counts_children():
        return None
    return step
