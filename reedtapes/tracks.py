"""Work on tracks: merged and parted, cut and glued, and led to another beat."""

from math import gcd

from reedtapes.errors import NoTrack, NotWhole
from reedtapes.events import at_tick, later, need_behind, need_room, need_tick, retimed, ticks_of
from reedtapes.maps import need_beat
from reedtapes.stands import Stand, ends, stand_behind, things


def need_number(number, many):
    """Refuse a number that none of so many tracks has."""
    if number < 0 or number >= many:
        raise NoTrack(f"there is no track {number}")


def merged(tracks):
    """The events of tracks as rows (track's number, event), by ticks."""
    rows = [(number, event) for number, track in enumerate(tracks) for event in track]
    # Sorting keeps rows of like ticks by tracks, and those of one track in order.
    return sorted(rows, key=lambda row: row[1][0])


def parted(rows, many):
    """So many tracks of rows (track's number, event)."""
    told = [[] for _ in range(many)]
    for number, event in rows:
        need_number(number, many)
        told[number].append(event)
    return told


def apart(track, channel):
    """The events of a channel, and all others."""
    its = [event for event in track if is_of(event, channel)]
    others = [event for event in track if not is_of(event, channel)]
    return its, others


def is_of(event, channel):
    """Whether an event is of a channel; a mark is of none."""
    return event[1] != "mark" and event[2] == channel


def cut(track, tick):
    """The pieces ahead of a tick and from it on, between which the notes are ended and begun anew."""
    need_tick(tick)
    ahead = [event for event in track if event[0] < tick]
    stand = stand_behind(Stand(), ahead)
    first = ahead + at_tick(tick, ends(stand.sounds()))
    begun = things("voice", stand.voices()) + things("knob", stand.knobs()) + things("on", stand.sounds())
    second = at_tick(0, begun) + later(track[len(ahead):], -tick)
    need_room(first)
    need_room(second)
    return first, second


def glued(track, other, tick):
    """A track, and behind it another one from a tick on."""
    need_behind(track, tick)
    told = list(track) + later(other, tick)
    need_room(told)
    return told


def whole_ticks(ticks, beat, other):
    """The ticks at another beat, where all of them are whole."""
    for place, tick in enumerate(ticks):
        if tick * other % beat != 0:
            raise NotWhole(place)
    return [tick * other // beat for tick in ticks]


def at_beat(track, beat, other):
    """The track of a beat at another one."""
    need_beat(beat)
    need_beat(other)
    return retimed(track, whole_ticks(ticks_of(track), beat, other))


def least_beat(tracks, beat):
    """The least beat at which all ticks of the tracks are whole."""
    common = beat
    for track in tracks:
        for tick in ticks_of(track):
            common = gcd(common, tick)
    return beat // common
