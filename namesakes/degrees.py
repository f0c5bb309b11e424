"""Degrees: how far below their parting person two kin with one name can stand."""

from math import lcm

from namesakes.errors import BadNumber, TooWide
from namesakes.fresh import check_ways
from namesakes.kinwords import kin_words
from namesakes.lengths import MOST_LENGTH, Lengths, least_lengths
from namesakes.machines import MOST_ROUNDS
from namesakes.records import is_whole


def _length_pairs(custom, half):
    """Pairs of Lengths: one of the first tells how long the one line can be, one of the second the other."""
    known = {}
    found = {}
    for elder, younger, _ in kin_words(custom, half=half).products:
        for machine in (elder, younger):
            if machine.rooms not in known:
                known[machine.rooms] = machine.lengths()
        one, other = known[elder.rooms], known[younger.rooms]
        found[_key(one), _key(other)] = (one, other)
    return [found[key] for key in found]


def _key(lengths):
    return (lengths.early, lengths.start, lengths.period, lengths.rest)


def _round_of_both(one, other):
    """(start, period) with which both sets come again."""
    start = max(one.start, other.start)
    period = lcm(one.period, other.period)
    if start + period > MOST_ROUNDS:
        raise TooWide("rounds")
    return start, period


def _of_both(one, other):
    """The numbers that are in both sets."""
    start, period = _round_of_both(one, other)
    return least_lengths([n in one and n in other for n in range(start + period)], start)


def _of_either(one, other):
    """The numbers that are in one of the two sets."""
    start, period = _round_of_both(one, other)
    return least_lengths([n in one or n in other for n in range(start + period)], start)


def degrees(custom, *, half=False):
    """The Lengths of all n for which two kin of this sort, n + 1 letters down each, can have one name."""
    found = Lengths((), 0, 1, ())
    for one, other in _length_pairs(custom, half):
        found = _of_either(found, _of_both(one, other))
    # No line below the parting person has no letters, so nothing is lost at 0.
    return least_lengths([n + 1 in found for n in range(found.start + found.period)], found.start)


def can_be_namesakes(custom, up, down, *, half=False):
    """Whether two kin so many letters below their parting person can have one name."""
    check_ways(custom)
    for number in (up, down):
        if not is_whole(number, 1, MOST_LENGTH):
            raise BadNumber(number)
    pairs = _length_pairs(custom, half)
    return any([up in one and down in other or down in one and up in other for one, other in pairs])
