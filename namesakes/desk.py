"""Desks: pages on which more and more is told, and taken back again."""

from namesakes.errors import BadNotice
from namesakes.fillings import how_many_fillings
from namesakes.records import is_label, is_name, is_sequence
from namesakes.smudges import MOST_SEEN, Page, book_ahead

# How many items a notice has, by its first word.
SIZES = {"sees": 3, "parents": 4, "name": 3}


def _is_notice(thing):
    """Whether the thing has one of the three forms."""
    if not is_sequence(thing) or not thing or not isinstance(thing[0], str):
        return False
    if thing[0] not in SIZES or len(thing) != SIZES[thing[0]] or not is_label(thing[1]):
        return False
    if thing[0] == "parents":
        return is_label(thing[2]) and is_label(thing[3])
    return is_name(thing[2])


def _row_told(page, notice):
    """The index of the row at whose smudge it tells what stands there, or None."""
    for index, smudge in page.smudges:
        row = page.rows[index]
        label = row[1] if row[0] == "comes" else row[4]
        if label == notice[1] and (smudge == "parents") == (notice[0] == "parents"):
            return index
    return None


def _told_row(row, notice):
    """The row with what the notice tells put in."""
    if notice[0] == "parents":
        return (row[0], notice[2], notice[3]) + row[3:]
    if row[0] == "comes":
        return row[:3] + (notice[2], row[4])
    return row[:5] + (notice[2],)


def _page_with(start, notices):
    """The page with all notices put in."""
    rows = list(start.rows)
    seen = list(start.seen)
    for notice in notices:
        if notice[0] == "sees":
            seen.append(notice[1:])
        else:
            index = _row_told(start, notice)
            rows[index] = _told_row(rows[index], notice)
    return Page(start.custom, rows, seen)


class Kept:
    """What a desk had when a trial began; `before` is of the trial around it, if it is the same."""

    def __init__(self, page, notices, before):
        self.page = page
        self.notices = notices
        self.before = before


class Trial:
    """For a with: at its end the desk is again what it was at its beginning."""

    def __init__(self, desk):
        self.desk = desk
        self.kept = None

    def __enter__(self):
        self.kept = Kept(self.desk.page, self.desk.notices, self.kept)
        return self.desk

    def __exit__(self, kind, value, trace):
        desk = self.desk
        desk.page = self.kept.page
        desk.notices = self.kept.notices
        self.kept = self.kept.before


class Desk:
    """A page, and the notices that were heard of it."""

    def __init__(self, page):
        self.start = page
        self.page = page
        self.notices = ()

    def hear(self, notice):
        """Put in one notice more, and return how many fillings the page has then."""
        what = self._fault(notice)
        if what is not None:
            raise BadNotice(what)
        return self._settle(self.notices + (tuple(notice),))

    def forget(self, notice):
        """Take back a notice, and return how many fillings the page has then."""
        if not _is_notice(notice) or tuple(notice) not in self.notices:
            raise BadNotice("notice")
        return self._settle(tuple([other for other in self.notices if other != tuple(notice)]))

    def _fault(self, notice):
        """Why the notice cannot be heard, or None."""
        if not _is_notice(notice):
            return "notice"
        if notice[0] == "sees":
            return self._seen_fault(notice[1])
        index = _row_told(self.start, notice)
        if index is None:
            return "label"
        if (notice[0], notice[1]) in [other[:2] for other in self.notices]:
            return "known"
        if notice[0] == "parents" and not book_ahead(self.start, index).is_couple(notice[2], notice[3]):
            return "couple"
        return None

    def _seen_fault(self, label):
        if label not in self.start.children():
            return "label"
        if label in [child for child, _ in self.page.seen]:
            return "known"
        return "many" if len(self.page.seen) == MOST_SEEN else None

    def _settle(self, notices):
        # The page may be too wide; nothing is assigned ahead of it.
        page = _page_with(self.start, notices)
        many = how_many_fillings(page)
        self.page = page
        self.notices = notices
        return many

    def trial(self):
        """An object for a with, behind which the desk is again what it was."""
        return Trial(self)

    def tried(self, call):
        """What the function returns for this desk within a trial."""
        with self.trial() as desk:
            return call(desk)

    def __len__(self):
        return len(self.notices)

    def __iter__(self):
        return iter(self.notices)
