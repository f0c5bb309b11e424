"""Descents: lines of fresh records along which a name comes down, written out row by row."""

from namesakes.freshpersons import deeds_to
from namesakes.freshstates import write_deeds, write_person


class Descents:
    """By places of a word: from which carriers the letters behind lead to a bearer, and with how few rows."""

    def __init__(self, carriers, word):
        self.carriers = carriers
        self.word = word
        # Entry n has for each carrier behind n letters the rows of all that comes and the next carrier.
        self.layers = [{} for _ in range(len(word) + 1)]
        for carrier in range(len(carriers.members)):
            if carriers.is_bearer(carrier):
                self.layers[-1][carrier] = (0, None)
        for at in reversed(range(len(word))):
            for carrier in range(len(carriers.members)):
                self._put_in(at, carrier)

    def _put_in(self, at, carrier):
        handings = self.carriers.handings(carrier, self.word[at])
        best = None
        for child in handings:
            if child in self.layers[at + 1]:
                rows = handings[child].rows + self.layers[at + 1][child][0]
                if best is None or rows < best[0]:
                    best = (rows, child)
        if best is not None:
            self.layers[at][carrier] = best

    def rows_from(self, at, carrier):
        """The rows of the line behind a carrier who stands behind so many letters, None if there is none."""
        return self.layers[at][carrier][0] if carrier in self.layers[at] else None

    def write(self, writing, at, carrier, label):
        """Write out the line behind this carrier, a person of this label; return the label of the last person."""
        while at < len(self.word):
            child = self.layers[at][carrier][1]
            handing = self.carriers.handings(carrier, self.word[at])[child]
            label, _ = write_child(writing, label, self.carriers.members[carrier][0], handing)
            carrier = child
            at += 1
        return label


def write_child(writing, label, kind, handing):
    """A person of this kind weds a mate and hands the name on; return the labels of the child and of the mate."""
    mate = write_person(writing, handing.mate)
    father, mother = (label, mate) if kind == "s" else (mate, label)
    writing.wed(father, mother)
    write_deeds(writing, father, mother, deeds_to(handing.situation), [])
    return writing.bear(father, mother, handing.kind), mate
