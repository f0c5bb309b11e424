"""Lengths: sets of whole numbers that come again and again from some number on."""

from namesakes.errors import BadNumber
from namesakes.records import is_whole

MOST_LENGTH = 10 ** 30


class Lengths:
    """The members below `start`, and the remainders by `period` of those from `start` on."""

    def __init__(self, early, start, period, rest):
        self.early = early
        self.start = start
        self.period = period
        self.rest = rest

    @property
    def nearest(self):
        """The least member, or None."""
        if self.early:
            return self.early[0]
        return self.start + self.rest[0] if self.rest else None

    @property
    def is_endless(self):
        """Whether there is no greatest member, but some."""
        return len(self.rest) > 0

    @property
    def farthest(self):
        """The greatest member; None if there is none or no greatest one."""
        return None if self.rest or not self.early else self.early[-1]

    def __contains__(self, n):
        if not is_whole(n, 0, MOST_LENGTH):
            raise BadNumber(n)
        if n < self.start:
            return n in self.early
        return (n - self.start) % self.period in self.rest

    def __eq__(self, other):
        return (
            type(self) is type(other)
            and self.early == other.early
            and self.start == other.start
            and self.period == other.period
            and self.rest == other.rest
        )


def least_lengths(members, start):
    """The Lengths of all n for which members[n] is true, those from `start` on said over and over.

    The least period and then the least start are found.
    """
    again = members[start:]
    period = least_period(again)
    # A number ahead of the round can belong to it, if it is like the one a period later.
    while start > 0 and members[start - 1] == members[start - 1 + period]:
        start = start - 1
    early = tuple([n for n in range(start) if members[n]])
    return Lengths(early, start, period, tuple([n for n in range(period) if members[start + n]]))


def least_period(again):
    """The least number of entries that, said over and over, give the same."""
    many = len(again)
    for period in range(1, many):
        if many % period == 0 and again[period:] == again[:many - period]:
            return period
    return many
