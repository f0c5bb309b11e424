"""Clashes: seen names that no record can give together."""

from namesakes.fillings import filled_records
from namesakes.lots import is_lot_within, ordered_lots
from namesakes.naming import Naming


def _full_lots(page):
    """For each record that may be the page without its seen names the lot that it gives."""
    found = {}
    seen = {}
    rows = []
    for record in filled_records(page, seen, rows):
        naming = Naming(page.custom, record)
        given = [index for index, (label, name) in enumerate(page.seen) if naming.given_of(label) == name]
        found[tuple(given)] = True
    return list(found)


def _given_lots(page):
    """All lots that some record gives, as keys of a dict, by size, then ascending."""
    full = _full_lots(page)
    lots = ordered_lots(len(page.seen))
    return {lot: True for lot in lots if any([is_lot_within(lot, other) for other in full])}


def least_clashes(page):
    """The least lots that no record gives."""
    given = _given_lots(page)
    found = []
    for lot in ordered_lots(len(page.seen)):
        if lot not in given and not any([is_lot_within(other, lot) for other in found]):
            found.append(lot)
    return tuple(found)


def greatest_lots(page):
    """The greatest lots that some record gives."""
    given = _given_lots(page)
    found = []
    for lot in given:
        if not any([is_lot_within(lot, other) and lot != other for other in given]):
            found.append(lot)
    return tuple(found)
