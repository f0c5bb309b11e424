"""Records of families: rows in which persons come, wed, are born and die."""

from namesakes.errors import BadRecord, BadWay, NoPerson, NoRow

MOST_ROWS = 5000
MOST_NAME = 10 ** 30
MOST_WIDTH = 2
WAYS = ("", "f", "m", "ff", "fm", "mf", "mm", "fff", "ffm", "fmf", "fmm", "mff", "mfm", "mmf", "mmm")
KINDS = ("s", "d")
OTHER_KIND = {"s": "d", "d": "s"}
# The kind of a parent by the letter of the way that leads there.
PARENT_KIND = {"f": "s", "m": "d"}


def is_whole(thing, low, high):
    """Whether the thing is a whole number from low to high."""
    return isinstance(thing, int) and not isinstance(thing, bool) and low <= thing <= high


def is_name(thing):
    return is_whole(thing, 0, MOST_NAME)


def is_label(thing):
    if not isinstance(thing, str) or not 1 <= len(thing) <= 6:
        return False
    return all(["a" <= letter <= "z" for letter in thing])


def is_kind(thing):
    return isinstance(thing, str) and thing in KINDS


def is_way(thing, least, most):
    """Whether the thing is a way of least to most letters."""
    if not isinstance(thing, str) or not least <= len(thing) <= most:
        return False
    return all([letter in PARENT_KIND for letter in thing])


def is_sequence(thing):
    return isinstance(thing, (list, tuple))


def is_row(row):
    """Whether the row has one of the four forms."""
    if not is_sequence(row) or not row or not isinstance(row[0], str):
        return False
    if row[0] == "comes":
        return len(row) == 5 and is_label(row[1]) and is_kind(row[2]) and is_name(row[3]) and _are_names(row[4])
    if row[0] == "weds":
        return len(row) == 3 and is_label(row[1]) and is_label(row[2])
    if row[0] == "born":
        labels = len(row) == 6 and is_label(row[1]) and is_label(row[2]) and is_label(row[4])
        return labels and is_kind(row[3]) and is_name(row[5])
    return row[0] == "dies" and len(row) == 2 and is_label(row[1])


def _are_names(thing):
    return is_sequence(thing) and all([is_name(name) for name in thing])


class Book:
    """What the rows written so far say of the persons and couples.

    It changes row by row; a finished record keeps the book of all its rows.
    """

    def __init__(self):
        self.kinds = {}
        self.parents = {}
        self.row_numbers = {}
        self.dead = {}
        self.mate_now = {}
        self.all_mates = {}
        self.children = {}

    def is_couple(self, father, mother):
        return (father, mother) in self.children and self.mate_now.get(father) == mother

    def write(self, index, row):
        """Take in a row that has no fault."""
        if row[0] == "comes":
            self.bring(index, row[1], row[2])
        elif row[0] == "weds":
            self.wed(row[1], row[2])
        elif row[0] == "born":
            self.bring(index, row[4], row[3])
            self.parents[row[4]] = (row[1], row[2])
            self.children[row[1], row[2]].append(row[4])
        else:
            self.bury(row[1])

    def bring(self, index, label, kind):
        self.kinds[label] = kind
        self.row_numbers[label] = index
        self.all_mates[label] = []

    def wed(self, father, mother):
        self.children[father, mother] = []
        self.mate_now[father] = mother
        self.mate_now[mother] = father
        self.all_mates[father].append(mother)
        self.all_mates[mother].append(father)

    def bury(self, label):
        self.dead[label] = True
        if label in self.mate_now:
            del self.mate_now[self.mate_now[label]]
            del self.mate_now[label]


def row_fault(book, width, row):
    """What is wrong with this row behind those of the book, or None."""
    if not is_row(row):
        return "row"
    if row[0] == "comes":
        return _coming_fault(book, width, row)
    if row[0] == "weds":
        return _wedding_fault(book, row[1], row[2])
    if row[0] == "born":
        return _birth_fault(book, row[1], row[2], row[4])
    if row[1] not in book.kinds:
        return "person"
    return "dead" if row[1] in book.dead else None


def _coming_fault(book, width, row):
    if row[1] in book.kinds:
        return "label"
    return None if len(row[4]) == width else "width"


def _wedding_fault(book, father, mother):
    if father not in book.kinds or mother not in book.kinds:
        return "person"
    if book.kinds[father] != "s" or book.kinds[mother] != "d":
        return "kind"
    if father in book.dead or mother in book.dead:
        return "dead"
    return "wed" if father in book.mate_now or mother in book.mate_now else None


def _birth_fault(book, father, mother, label):
    if father not in book.kinds or mother not in book.kinds:
        return "person"
    if not book.is_couple(father, mother):
        return "couple"
    return "label" if label in book.kinds else None


def _write_rows(book, width, rows):
    """Write all rows into the empty book, or return the first fault."""
    if not is_whole(width, 0, MOST_WIDTH):
        return (0, "width")
    if not is_sequence(rows):
        return (0, "rows")
    if len(rows) > MOST_ROWS:
        return (MOST_ROWS, "many")
    for index, row in enumerate(rows):
        what = row_fault(book, width, row)
        if what is not None:
            return (index, what)
        book.write(index, row)
    return None


def record_fault(width, rows):
    """None if these rows are a record of this width, else (index, what)."""
    return _write_rows(Book(), width, rows)


def as_tuples(row):
    """The row, and what it holds, as tuples."""
    if row[0] == "comes":
        return (row[0], row[1], row[2], row[3], tuple(row[4]))
    return tuple(row)


class Record:
    """The rows of some families, and what stands at their end."""

    def __init__(self, width, rows=()):
        book = Book()
        fault = _write_rows(book, width, rows)
        if fault is not None:
            raise BadRecord(fault[0], fault[1])
        self.width = width
        self.rows = tuple([as_tuples(row) for row in rows])
        self.persons = tuple(book.kinds)
        self.founders = tuple([label for label in book.kinds if label not in book.parents])
        self.born = tuple(book.parents)
        self.weddings = tuple(book.children)
        self.couples = tuple([pair for pair in book.children if book.mate_now.get(pair[0]) == pair[1]])
        self.living = tuple([label for label in book.kinds if label not in book.dead])
        self._book = book

    def check_person(self, label):
        """Raise NoPerson unless this is the label of a person."""
        if not is_label(label) or label not in self._book.kinds:
            raise NoPerson(label)

    def kind_of(self, label):
        self.check_person(label)
        return self._book.kinds[label]

    def father_of(self, label):
        self.check_person(label)
        return self._book.parents.get(label, (None, None))[0]

    def mother_of(self, label):
        self.check_person(label)
        return self._book.parents.get(label, (None, None))[1]

    def elder_of(self, label, way):
        """The person to whom the way leads, or None for nobody."""
        self.check_person(label)
        if not is_way(way, 0, 3):
            raise BadWay(way)
        elder = label
        for letter in way:
            if elder not in self._book.parents:
                return None
            father, mother = self._book.parents[elder]
            elder = father if letter == "f" else mother
        return elder

    def mate_of(self, label):
        """The mate, if both live, else None."""
        self.check_person(label)
        return self._book.mate_now.get(label)

    def mates_of(self, label):
        self.check_person(label)
        return tuple(self._book.all_mates[label])

    def children_of(self, father, mother):
        """All children of these two, in the order of births."""
        self.check_person(father)
        self.check_person(mother)
        return tuple(self._book.children.get((father, mother), ()))

    def siblings_of(self, label):
        """The other children of both parents, in the order of births."""
        self.check_person(label)
        if label not in self._book.parents:
            return ()
        children = self._book.children[self._book.parents[label]]
        return tuple([child for child in children if child != label])

    def number_of(self, label):
        """Which child of its kind of its parents this is, or None for a founder."""
        self.check_person(label)
        if label not in self._book.parents:
            return None
        kinds = self._book.kinds
        children = self._book.children[self._book.parents[label]]
        alike = [child for child in children if kinds[child] == kinds[label]]
        return alike.index(label) + 1

    def is_alive(self, label):
        self.check_person(label)
        return label not in self._book.dead

    def row_of(self, label):
        """The index of the row with which this person comes or is born."""
        self.check_person(label)
        return self._book.row_numbers[label]

    def after(self, *rows):
        """The record with these rows behind its own."""
        return Record(self.width, self.rows + rows)

    def until(self, many):
        """The record of the first rows, so many."""
        if not is_whole(many, 0, len(self.rows)):
            raise NoRow(many)
        return Record(self.width, self.rows[:many])

    def shorter(self):
        """The record without its last row."""
        if not self.rows:
            raise NoRow(0)
        return Record(self.width, self.rows[:-1])

    def __eq__(self, other):
        return type(self) is type(other) and self.width == other.width and self.rows == other.rows

    def __len__(self):
        return len(self.rows)

    def __iter__(self):
        return iter(self.rows)


def beginnings(record):
    """The records of the first 0, 1, .. all rows."""
    for many in range(len(record.rows) + 1):
        yield record.until(many)
