"""Pages: rows of a record, some of them smudged."""

from namesakes.errors import BadPage, BadSeen
from namesakes.records import Book, as_tuples, is_label, is_name, is_row, is_sequence, row_fault

MOST_PAGE_ROWS = 60
MOST_SMUDGES = 3
MOST_SEEN = 5
MOST_FILLINGS = 1000


def _unsmudged(row):
    """The row with something at each smudge, if it has the form of a row that can be smudged."""
    if not is_sequence(row) or not row or not isinstance(row[0], str):
        return row
    whole = list(row)
    if row[0] == "comes" and len(row) == 5 and row[3] is None:
        whole[3] = 0
    if row[0] == "born" and len(row) == 6:
        if row[1] is None and row[2] is None:
            whole[1] = whole[2] = "a"
        if row[5] is None:
            whole[5] = 0
    return whole


def _smudges_of(row):
    """The smudges of a row, parents ahead of the choice."""
    if row[0] == "comes":
        return ["given"] if row[3] is None else []
    if row[0] != "born":
        return []
    return (["parents"] if row[1] is None else []) + (["choice"] if row[5] is None else [])


def _smudged_row_fault(book, width, row):
    """What is wrong with this row behind those of the book, or None."""
    whole = _unsmudged(row)
    if is_row(whole) and "parents" in _smudges_of(row):
        return "label" if row[4] in book.kinds else None
    return row_fault(book, width, whole)


def _write(book, index, row):
    """Take in a row that has no fault; a child of smudged parents only comes."""
    if "parents" in _smudges_of(row):
        book.bring(index, row[4], row[3])
    else:
        book.write(index, row)


def book_ahead(page, index):
    """The book of the page's rows ahead of this one."""
    book = Book()
    for number, row in enumerate(page.rows[:index]):
        _write(book, number, row)
    return book


class Reading:
    """The smudges of the rows read so far, and how many couples there are at each."""

    def __init__(self):
        self.book = Book()
        self.smudges = []
        self.couples = []

    def read(self, width, index, row):
        what = _smudged_row_fault(self.book, width, row)
        if what is not None:
            raise BadPage(index, what)
        for smudge in _smudges_of(row):
            self.smudges.append((index, smudge))
            self.couples.append(len(self.book.mate_now) // 2)
        if len(self.smudges) > MOST_SMUDGES:
            raise BadPage(index, "smudges")
        _write(self.book, index, row)


def _check_seen(seen, children):
    if not is_sequence(seen) or len(seen) > MOST_SEEN:
        raise BadSeen(0, "seen")
    labels = []
    for index, pair in enumerate(seen):
        if not is_sequence(pair) or len(pair) != 2 or not is_label(pair[0]) or not is_name(pair[1]):
            raise BadSeen(index, "pair")
        if pair[0] not in children:
            raise BadSeen(index, "label")
        if pair[0] in labels:
            raise BadSeen(index, "double")
        labels.append(pair[0])


def _written_names(rows, seen):
    """The unlike names that stand in the rows, in order, and then those that are seen."""
    found = {}
    for row in rows:
        if row[0] == "comes":
            for name in (row[3],) + row[4]:
                found[name] = True
        elif row[0] == "born":
            found[row[5]] = True
    for _, name in seen:
        found[name] = True
    return tuple([name for name in found if name is not None])


def _check_product(smudges, couples, written):
    """Refuse a page with which too many fillings would have to be gone through."""
    product = 1
    names = written
    for (_, smudge), many in zip(smudges, couples):
        if smudge == "parents":
            product = product * many
        else:
            names += 1
            product = product * names
    if product > MOST_FILLINGS:
        raise BadPage(0, "wide")


class Page:
    """Rows of a record with at most a few smudges, and names that are seen besides."""

    def __init__(self, custom, rows, seen=()):
        if not is_sequence(rows):
            raise BadPage(0, "rows")
        if len(rows) > MOST_PAGE_ROWS:
            raise BadPage(MOST_PAGE_ROWS, "many")
        reading = Reading()
        for index, row in enumerate(rows):
            reading.read(custom.width, index, row)
        self.custom = custom
        self.rows = tuple([as_tuples(row) for row in rows])
        _check_seen(seen, self.children())
        self.seen = tuple([tuple(pair) for pair in seen])
        self.smudges = tuple(reading.smudges)
        self.written = _written_names(self.rows, self.seen)
        _check_product(self.smudges, reading.couples, len(self.written))

    def children(self):
        """The labels of the born rows, in order."""
        return tuple([row[4] for row in self.rows if row[0] == "born"])

    def with_seen(self, seen):
        """The page with other seen names."""
        return Page(self.custom, self.rows, seen)

    def __eq__(self, other):
        return (
            type(self) is type(other)
            and self.custom == other.custom
            and self.rows == other.rows
            and self.seen == other.seen
        )

    def __len__(self):
        return len(self.rows)

    def __iter__(self):
        return iter(self.rows)
