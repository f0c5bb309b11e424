"""Forms of lines: who of a line has one name, and lines written out as records."""

from namesakes.errors import BadGeneration, BadLine
from namesakes.plays import label_at
from namesakes.records import OTHER_KIND, Record, is_whole

MOST_WRITTEN = 100


class Bearers:
    """All persons of a line whose names have one origin: some numbers, and all with some remainders."""

    def __init__(self, numbers, remainders, cycle):
        self.numbers = numbers
        self.remainders = remainders
        self.cycle = cycle

    def __eq__(self, other):
        return (
            type(self) is type(other)
            and self.numbers == other.numbers
            and self.remainders == other.remainders
            and self.cycle == other.cycle
        )


class LineRecord:
    """A record of the first persons of a line, and their labels."""

    def __init__(self, record, father, mates, persons):
        self.record = record
        self.father = father
        self.mates = mates
        self.persons = persons


def back_after(line, n):
    """Behind how many persons the name of person n comes again, or None."""
    bearers = bearers_of(line, line.origin_at(n))
    later = [number for number in bearers.numbers if number > n]
    first = max(n + 1, line.settled)
    for remainder in bearers.remainders:
        later.append(first + (remainder - first) % bearers.cycle)
    return min(later) - n if later else None


def bearers_of(line, origin):
    """All persons of the line whose names have this origin."""
    numbers = [n for n in range(1, line.settled) if line.origin_at(n) == origin]
    remainders = []
    for n in range(line.settled, line.settled + line.cycle):
        if n % line.cycle not in line.stays:
            numbers.extend(_number_later(line, n, origin))
        elif line.origin_at(n) == origin:
            remainders.append(n % line.cycle)
    return Bearers(tuple(sorted(numbers)), tuple(sorted(remainders)), line.cycle)


def _number_later(line, n, origin):
    """The number of the person with this origin among n and those so many cycles later, if there is one."""
    first = line.origin_at(n)
    if first[0] != origin[0] or first[2:] != origin[2:]:
        return []
    by = origin[1] - first[1]
    if by < 0 or by % line.cycle != 0:
        return []
    return [n + by]


def lasting_origins(line):
    """The origins that infinitely many persons have, in the order of their first persons there."""
    found = {}
    for n in range(line.settled, line.settled + line.cycle):
        if n % line.cycle in line.stays:
            found[line.origin_at(n)] = True
    return tuple(found)


class Pen:
    """Rows of a line so far; all names that come in are unlike."""

    def __init__(self, width):
        self.width = width
        self.rows = []
        self.labels = 0
        self.names = 0

    def _new_label(self):
        self.labels += 1
        return label_at(self.labels - 1)

    def _new_name(self):
        self.names += 1
        return self.names - 1

    def come(self, kind):
        label = self._new_label()
        given = self._new_name()
        self.rows.append(("comes", label, kind, given, tuple([self._new_name() for _ in range(self.width)])))
        return label

    def bear(self, couple, kind):
        label = self._new_label()
        self.rows.append(("born", couple[0], couple[1], kind, label, self._new_name()))
        return label

    def wed(self, kind, one, other):
        """A person of this kind weds a mate; return the couple."""
        couple = (one, other) if kind == "s" else (other, one)
        self.rows.append(("weds", couple[0], couple[1]))
        return couple


def line_record(line, many):
    """A record of the first persons of the line, so many, and of those who are born ahead of them."""
    if not is_whole(many, 1, MOST_WRITTEN):
        raise BadGeneration(many)
    if line.elders:
        raise BadLine(0, "elders")
    pen = Pen(line.custom.width)
    father = pen.come("s")
    mates = [pen.come("d")]
    couple = pen.wed("s", father, mates[0])
    persons = []
    for n in range(1, many + 1):
        kind, number = line.step_at(n)
        children = [pen.bear(couple, kind) for _ in range(number)]
        persons.append(children[-1])
        if n < many:
            mates.append(pen.come(OTHER_KIND[kind]))
            couple = pen.wed(kind, persons[-1], mates[-1])
    return LineRecord(Record(line.custom.width, pen.rows), father, tuple(mates), tuple(persons))
