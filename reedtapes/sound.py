"""How tracks sound: two of them, each with its map, moment by moment."""

from reedtapes.maps import share
from reedtapes.stands import Stand, stand_behind


def events_by_moment(track, led, parts):
    """The events of a track, by their moments as whole numbers of parts of a millionth."""
    told = {}
    for event in track:
        top, bottom = led.moment(event[0])
        told.setdefault(top * (parts // bottom), []).append(event)
    return told


def unlike(track, own, other, theirs):
    """The first moment at which two tracks don't sound alike, and both stands there; None where they do."""
    # In so many parts of a millionth each moment of either map is whole.
    parts = own.beat() * theirs.beat()
    mine = events_by_moment(track, own, parts)
    others = events_by_moment(other, theirs, parts)
    here = there = Stand()
    for moment in sorted({**mine, **others}):
        here = stand_behind(here, mine.get(moment, []))
        there = stand_behind(there, others.get(moment, []))
        if here != there:
            return share(moment, parts), here, there
    return None
