"""Pairs of lines: where two customs part along one plan, and where they agree again."""

from math import lcm

from namesakes.errors import UnlikePlans
from namesakes.lines import Line
from namesakes.records import OTHER_KIND


def _check_plans(one, other):
    if one.start != other.start or one.again != other.again or one.elders != other.elders:
        raise UnlikePlans()


def _unlike_at(one, other):
    """(least, numbers): persons whose names have unlike origins, as far as all that comes is told by them.

    From `least` on the same holds again and again.
    """
    _check_plans(one, other)
    settled = max(one.settled, other.settled)
    # Where a name stays in one line alone, the two can be alike once and then not again.
    end = settled + 2 * lcm(one.cycle, other.cycle)
    return settled, [n for n in range(1, end) if one.origin_at(n) != other.origin_at(n)]


def parted_at(one, other):
    """The least number of a person whose names have unlike origins in the two lines, or None."""
    _, unlike = _unlike_at(one, other)
    return unlike[0] if unlike else None


def agreed_from(one, other):
    """The least number of a person from whom on all names have the same origins in both, or None."""
    settled, unlike = _unlike_at(one, other)
    if not unlike:
        return 1
    return None if unlike[-1] >= settled else unlike[-1] + 1


def _mirrored_steps(steps):
    return [(OTHER_KIND[kind], number) for kind, number in steps]


def mirrored_line(line):
    """The line of the mirrored custom, with the kinds of all steps exchanged."""
    start, again = _mirrored_steps(line.start), _mirrored_steps(line.again)
    return Line(line.custom.mirrored(), start, again, elders=line.elders)
