"""Closed tables: no step leaves them."""

from namesakes.steps import following_steps, founder_steps, wedding_steps


def leaving_step(table):
    """Any step from states of the table, or from none, that leads out of it, or None."""
    for step in founder_steps(table.scope):
        if _leaves(table, step):
            return step
    leaving = _leaving_wedding(table)
    if leaving is not None:
        return leaving
    for state in table.states:
        for step in following_steps(table.scope, state):
            if _leaves(table, step):
                return step
    return None


def _leaves(table, step):
    return not all([state in table for state in step.results])


def _leaving_wedding(table):
    fathers = [person for person in table.persons if person.kind == "s"]
    mothers = [person for person in table.persons if person.kind == "d"]
    for father in fathers:
        for mother in mothers:
            for step in wedding_steps(table.scope, father, mother):
                if _leaves(table, step):
                    return step
    return None


def is_closed(table):
    """Whether no step leaves the table."""
    return leaving_step(table) is None
