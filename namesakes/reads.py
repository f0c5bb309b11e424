"""What parents must bring so that a custom can judge all births and weddings."""

from namesakes.clauses import SOURCES
from namesakes.errors import BadKind, TooWide
from namesakes.records import KINDS, OTHER_KIND, PARENT_KIND, is_kind

PLACES = ("", "f", "m", "ff", "fm", "mf", "mm", ".0", ".1")
LIFE_WAYS = ("f", "m", "ff", "fm", "mf", "mm")
MOST_READ_PLACES = 3
MOST_READ_LIVES = 2
MOST_TRACKED = 2


class Reads:
    """The places and lives that are read of each kind, what is tracked and numbered.

    `places` and `life_ways` are dicts from kinds to tuples.
    """

    def __init__(self, places, life_ways, tracked, numbered):
        self._places = places
        self._life_ways = life_ways
        self.tracked = tracked
        self.numbered = numbered

    def places(self, kind):
        if not is_kind(kind):
            raise BadKind(kind)
        return self._places[kind]

    def life_ways(self, kind):
        if not is_kind(kind):
            raise BadKind(kind)
        return self._life_ways[kind]

    def too_wide(self):
        """What more is read than is let: "names", "lives", "tracked", or None."""
        if max([len(self._places[kind]) for kind in KINDS]) > MOST_READ_PLACES:
            return "names"
        if max([len(self._life_ways[kind]) for kind in KINDS]) > MOST_READ_LIVES:
            return "lives"
        return "tracked" if len(self.tracked) > MOST_TRACKED else None

    def check_width(self):
        """Raise TooWide if more is read than is let."""
        what = self.too_wide()
        if what is not None:
            raise TooWide(what)

    def __eq__(self, other):
        return (
            type(self) is type(other)
            and self._places == other._places
            and self._life_ways == other._life_ways
            and self.tracked == other.tracked
            and self.numbered == other.numbered
        )


def reads_of(*customs, names=(), lives=(), tracked=(), houses=False):
    """What these customs together read, and what is wanted besides."""
    followed = list(tracked) + _tracked_sources(customs)
    sources = list(names) + followed
    ways = list(lives)
    for clause in _all_clauses(customs):
        sources.extend(clause.sources())
        ways.extend(clause.ways())
    wanted = [(PARENT_KIND[source[0]], source[1:]) for source in sources]
    if houses:
        width = max([custom.width for custom in customs], default=0)
        wanted.extend([(kind, f".{place}") for kind in KINDS for place in range(width)])
    read = _closed(wanted, customs)
    asked = _closed([(PARENT_KIND[way[0]], way[1:]) for way in ways], ())
    return Reads(
        {kind: tuple([place for place in PLACES if (kind, place) in read]) for kind in KINDS},
        {kind: tuple([way for way in LIFE_WAYS if (kind, way) in asked]) for kind in KINDS},
        tuple([source for source in SOURCES if source in followed]),
        tuple([kind for kind in KINDS if _is_numbered(customs, kind)]),
    )


def _all_clauses(customs):
    clauses = []
    for custom in customs:
        clauses.extend(custom.sons + custom.daughters)
    return clauses


def _tracked_sources(customs):
    """The sources of Takes for which it matters what names the children have had."""
    found = []
    for custom in customs:
        takes = custom.sons[:-1] + custom.daughters[:-1]
        bars = custom.sons[-1].counts_children() or custom.daughters[-1].counts_children()
        found.extend([take.source for take in takes if bars or take.counts_children()])
    return found


def _is_numbered(customs, kind):
    counts = [clause.counts_kind() for custom in customs for clause in custom.clauses(kind)]
    return any(counts)


def _closed(wanted, customs):
    """All pairs (kind, place) that are wanted or that wanted ones need, as keys of a dict."""
    found = {}
    waiting = list(wanted)
    while waiting:
        kind, place = waiting.pop()
        if (kind, place) not in found:
            found[kind, place] = True
            waiting.extend(_needs(kind, place, customs))
    return found


def _needs(kind, place, customs):
    """What a place of a person of this kind needs of the parents, or of a mate."""
    if place == "":
        return []
    if place[0] != ".":
        return [(PARENT_KIND[place[0]], place[1:])]
    index = int(place[1])
    found = []
    for custom in customs:
        if custom.width > index:
            found.append(_birth_need(custom.house[index]))
            rule = custom.wedding_rules(kind)[index]
            if rule != "own":
                found.append((OTHER_KIND[kind], f".{rule}"))
    return found


def _birth_need(rule):
    if rule[0] == "given":
        return (PARENT_KIND[rule[1]], "")
    return (PARENT_KIND[rule[0]], f".{rule[1]}")
