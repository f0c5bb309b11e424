"""Clauses that name nobody in any record, and records for the others."""

from namesakes.families import ClauseUse
from namesakes.naming import Naming, fits
from namesakes.papers import is_custom_table
from namesakes.paths import played_on, record_of
from namesakes.records import KINDS
from namesakes.scopes import Scope
from namesakes.steps import following_steps
from namesakes.tables import table_of


def _all_clauses(custom):
    """(kind, index) of all clauses, sons first."""
    return [(kind, index) for kind in KINDS for index in range(len(custom.clauses(kind)))]


def _births_by_clause(table):
    """By (kind, index) of a clause a couple and a deed of a birth at which it names the child."""
    found = {}
    for couple in table.couples:
        for step in following_steps(table.scope, couple):
            if step.deed[0] == "born":
                found.setdefault((step.deed[1], step.deed[2]), (couple, step.deed))
    return found


def clause_use(custom):
    """Which clauses name nobody in any record, and a record for each other one."""
    table = table_of(Scope(custom))
    births = _births_by_clause(table)
    unused = []
    used = []
    for clause in _all_clauses(custom):
        if clause in births:
            couple, deed = births[clause]
            told = played_on(table.scope, record_of(table, couple), (deed,))
            used.append(clause + (told.record,))
        else:
            unused.append(clause)
    return ClauseUse(table, tuple(unused), tuple(used))


def use_fault(custom, result):
    """What is wrong with a result of clause_use, or None."""
    Scope(custom)
    if not _has_all_clauses(custom, result):
        return "clauses"
    if not all([_is_named_last(custom, kind, index, record) for kind, index, record in result.used]):
        return "record"
    if not is_custom_table(custom, result.table):
        return "table"
    births = _births_by_clause(result.table)
    return "step" if any([clause in births for clause in result.unused]) else None


def _has_all_clauses(custom, result):
    """Whether each clause stands once in one of the two, and both are in order."""
    used = [(kind, index) for kind, index, _ in result.used]
    for clauses in (list(result.unused), used):
        if clauses != [clause for clause in _all_clauses(custom) if clause in clauses]:
            return False
    together = list(result.unused) + used
    return len(together) == len(_all_clauses(custom)) and all([clause in together for clause in _all_clauses(custom)])


def _is_named_last(custom, kind, index, record):
    """Whether the record fits and ends with the birth of such a child whom the clause names."""
    if not fits(custom, record) or not record.rows:
        return False
    row = record.rows[-1]
    return row[0] == "born" and row[3] == kind and Naming(custom, record).clause_of(row[4]) == index
