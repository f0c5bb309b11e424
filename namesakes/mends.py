"""Mends: changes by which siblings who both live are never namesakes any more."""

from namesakes.changes import changed_custom, check_changes
from namesakes.errors import BadChange, BadPrices
from namesakes.families import Family, NeverAlike
from namesakes.lots import is_lot_within, ordered_lots
from namesakes.records import is_sequence, is_whole
from namesakes.siblings import check_kinds, sibling_namesakes, siblings_fault

MOST_POOL = 5
MOST_PRICE = 10 ** 30


class Mends:
    """Least good lots with papers, bad ones with families, and lots that cannot be made."""

    def __init__(self, good, bad, unmade):
        self.good = good
        self.bad = bad
        self.unmade = unmade


def _check_pool(custom, pool, kinds):
    if not is_sequence(pool) or not 1 <= len(pool) <= MOST_POOL:
        raise BadChange(0, "pool")
    check_changes(custom, pool)
    check_kinds(kinds)


def all_lots(many):
    """All lots of a pool of so many changes, in order."""
    yield from ordered_lots(many)


def _made(custom, pool, lot):
    """The custom with the changes of a lot made, or None if they cannot be made."""
    changes = [pool[index] for index in lot]
    try:
        return changed_custom(custom, changes)
    except BadChange:
        return None


class Pool:
    """The lots of a pool, each asked once at most."""

    def __init__(self, custom, pool, kinds):
        self.custom = custom
        self.pool = tuple(pool)
        self.kinds = kinds
        self.lots = ordered_lots(len(pool))
        self._told = {}

    def ask(self, lot):
        """The NeverAlike or the Family of a lot, or None if it cannot be made."""
        if lot not in self._told:
            made = _made(self.custom, self.pool, lot)
            self._told[lot] = None if made is None else sibling_namesakes(made, self.kinds)
        return self._told[lot]

    def is_good(self, lot):
        return isinstance(self.ask(lot), NeverAlike)

    def mends(self):
        """The Mends; a lot is asked if no good one lies within it."""
        good, bad, unmade = [], [], []
        for lot in self.lots:
            if any([is_lot_within(least, lot) for least, _ in good]):
                continue
            result = self.ask(lot)
            if result is None:
                unmade.append(lot)
            elif isinstance(result, NeverAlike):
                good.append((lot, result))
            else:
                bad.append((lot, result))
        return Mends(tuple(good), tuple(bad), tuple(unmade))


def good_lots(custom, pool, kinds="any"):
    """All good lots, in order."""
    _check_pool(custom, pool, kinds)
    asked = Pool(custom, pool, kinds)
    return tuple([lot for lot in asked.lots if asked.is_good(lot)])


def least_mends(custom, pool, kinds="any"):
    """The least good lots, and why no smaller one is good."""
    _check_pool(custom, pool, kinds)
    return Pool(custom, pool, kinds).mends()


def mends_fault(custom, pool, kinds, mends):
    """What is wrong with a result of least_mends, or None."""
    _check_pool(custom, pool, kinds)
    good, bad, unmade = [lot for lot, _ in mends.good], [lot for lot, _ in mends.bad], list(mends.unmade)
    if not _are_those_asked(len(pool), good, bad, unmade):
        return "lots"
    if not all([_made(custom, pool, lot) is None for lot in unmade]):
        return "unmade"
    if any([_made(custom, pool, lot) is None for lot in good + bad]):
        return "unmade"
    for lot, paper in mends.good:
        if not isinstance(paper, NeverAlike) or siblings_fault(_made(custom, pool, lot), kinds, paper) is not None:
            return "paper"
    for lot, family in mends.bad:
        if not isinstance(family, Family) or siblings_fault(_made(custom, pool, lot), kinds, family) is not None:
            return "family"
    return None


def _are_those_asked(many, good, bad, unmade):
    """Whether they are, each once and in order, just the lots within which no other one of `good` lies."""
    wanted = []
    for lot in ordered_lots(many):
        if not any([other != lot and is_lot_within(other, lot) for other in good]):
            wanted.append(lot)
    for lots in (good, bad, unmade):
        if lots != [lot for lot in wanted if lot in lots]:
            return False
    return len(good) + len(bad) + len(unmade) == len(wanted) and all([lot in good + bad + unmade for lot in wanted])


def spoilers(custom, pool, kinds="any"):
    """(lot, index, family) where one change more spoils a least good lot."""
    _check_pool(custom, pool, kinds)
    asked = Pool(custom, pool, kinds)
    least = [lot for lot, _ in asked.mends().good]
    found = []
    for lot in least:
        for index in range(len(pool)):
            result = None if index in lot else asked.ask(tuple(sorted(lot + (index,))))
            if isinstance(result, Family):
                found.append((lot, index, result))
    return tuple(found)


def _check_prices(prices, many):
    if not is_sequence(prices) or len(prices) != many:
        raise BadPrices(-1)
    for index, price in enumerate(prices):
        if not is_whole(price, 0, MOST_PRICE):
            raise BadPrices(index)


def cheapest_mend(custom, pool, prices, kinds="any"):
    """(price, lot) of the first good lot of the least price, or None."""
    _check_pool(custom, pool, kinds)
    _check_prices(prices, len(pool))
    best = None
    for lot in good_lots(custom, pool, kinds):
        price = sum([prices[index] for index in lot])
        if best is None or price < best[0]:
            best = (price, lot)
    return best
