"""Chronicles: records that grow row by row."""

from namesakes.errors import BadRecord
from namesakes.naming import Naming
from namesakes.records import MOST_ROWS, Record, record_fault


class Kept:
    """What a chronicle had when a trial began; `before` is of the trial around it, if it is the same."""

    def __init__(self, record, naming, before):
        self.record = record
        self.naming = naming
        self.before = before


class Trial:
    """For a with: at its end the chronicle is again what it was at its beginning."""

    def __init__(self, chronicle):
        self.chronicle = chronicle
        self.kept = None

    def __enter__(self):
        self.kept = Kept(self.chronicle.record, self.chronicle.naming, self.kept)
        return self.chronicle

    def __exit__(self, kind, value, trace):
        chronicle = self.chronicle
        chronicle.record = self.kept.record
        chronicle.naming = self.kept.naming
        self.kept = self.kept.before


class Chronicle:
    """A record that grows, and its naming by a custom."""

    def __init__(self, custom):
        self.custom = custom
        self.record = Record(custom.width)
        self.naming = Naming(custom, self.record)

    def say(self, row):
        """Add a row and return its index."""
        self._go_on(self.record.after(row))
        return len(self.record.rows) - 1

    def say_all(self, rows):
        """Add these rows, all or none, and return how many."""
        all_rows = self.record.rows + tuple(rows)
        known = all_rows[:MOST_ROWS]
        fault = record_fault(self.record.width, known)
        if fault is None:
            record = Record(self.record.width, known)
        else:
            # A choice that is barred in an earlier row is refused ahead of the fault.
            Naming(self.custom, Record(self.record.width, known[:fault[0]]))
            raise BadRecord(fault[0], fault[1])
        naming = Naming(self.custom, record)
        if len(all_rows) > MOST_ROWS:
            raise BadRecord(MOST_ROWS, "many")
        self.record = record
        self.naming = naming
        return len(rows)

    def take_back(self):
        """Remove the last row and return it."""
        shorter = self.record.shorter()
        row = self.record.rows[-1]
        self._go_on(shorter)
        return row

    def _go_on(self, record):
        # The naming may be refused; the record is assigned behind it.
        self.naming = Naming(self.custom, record)
        self.record = record

    def trial(self):
        """An object for a with, behind which the chronicle is again what it was."""
        return Trial(self)

    def tried(self, call):
        """What the function returns for this chronicle within a trial."""
        with self.trial() as chronicle:
            return call(chronicle)

    def __len__(self):
        return len(self.record.rows)

    def __iter__(self):
        return iter(self.record.rows)
