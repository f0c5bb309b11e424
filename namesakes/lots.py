"""Lots: ascending tuples of indices."""


def ordered_lots(many):
    """All lots of indices below many, by size, then ascending."""
    lots = [()]
    for index in range(many):
        lots = lots + [lot + (index,) for lot in lots]
    return [lot for _, lot in sorted([(len(lot), lot) for lot in lots])]


def is_lot_within(lot, other):
    return all([index in other for index in lot])
