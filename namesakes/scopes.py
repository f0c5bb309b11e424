"""Scopes: what is read of persons and couples, and which custom names whom."""

from namesakes.clauses import is_source
from namesakes.customs import Custom
from namesakes.errors import BadScope
from namesakes.reads import reads_of
from namesakes.records import is_sequence, is_way


def _check_customs(customs):
    if not customs:
        raise BadScope("customs")
    for custom in customs:
        if not isinstance(custom, Custom):
            raise BadScope("customs")
    for custom in customs:
        if custom.width != customs[0].width:
            raise BadScope("width")


def _check_also(also):
    if not is_sequence(also) or not all([is_way(way, 1, 3) for way in also]):
        raise BadScope("also")


def _check_tracked(tracked, width):
    if not is_sequence(tracked) or not all([_is_source_within(source, width) for source in tracked]):
        raise BadScope("tracked")


def _is_source_within(thing, width):
    return is_source(thing) and ("." not in thing or int(thing[2]) < width)


class Scope:
    """Customs of one width, and what is read for them and besides."""

    def __init__(self, *customs, also=(), tracked=(), houses=False, followed=False):
        _check_customs(customs)
        _check_also(also)
        width = customs[0].width
        _check_tracked(tracked, width)
        reads = reads_of(*customs, names=also, lives=also, tracked=tracked, houses=houses)
        reads.check_width()
        self.customs = customs
        self.also = tuple(also)
        self.tracked = tuple(tracked)
        self.houses = houses
        self.followed = followed
        self.reads = reads
        self.width = width

    def places(self, kind):
        return self.reads.places(kind)

    def life_ways(self, kind):
        return self.reads.life_ways(kind)

    def asks_number(self, kind):
        """Whether the kind is numbered."""
        return kind in self.reads.numbered

    def custom_for(self, couple, kind):
        """The custom that names a child of this kind of the couple."""
        return self.customs[0]

    def wedding_custom(self, kind, mark):
        """The custom by whose wedding rules a person of this kind and mark weds."""
        return self.customs[0]

    def first_marks(self, kind):
        """The marks that a founder of this kind may have."""
        return (0,)

    def child_mark(self, couple, kind):
        """The mark of a child of this kind of the couple."""
        return 0

    def __eq__(self, other):
        return (
            type(self) is type(other)
            and self.customs == other.customs
            and self.also == other.also
            and self.tracked == other.tracked
            and self.houses == other.houses
            and self.followed == other.followed
        )
