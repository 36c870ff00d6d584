"""Notes of a track: their beginnings and ends, and tracks cured of those that lack one."""

from reedtapes.events import END_FORCE, last_tick, need_behind, need_room


def walked_through(track):
    """Three things: the end, or None, of each beginning; the lone ends; the beginnings over another note."""
    ends = {}
    lone_ends = []
    overs = []
    # The places of the notes that sound, by channel and key, the eldest first.
    sounding = {}
    for place, event in enumerate(track):
        if event[1] not in ("on", "off"):
            continue
        row = sounding.setdefault((event[2], event[3]), [])
        if event[1] == "on":
            if len(row) > 0:
                overs.append(place)
            ends[place] = None
            row.append(place)
        elif len(row) > 0:
            ends[row.pop(0)] = place
        else:
            lone_ends.append(place)
    return ends, lone_ends, overs


def notes(track):
    """The pairs (place of the beginning, place of the end or None), by beginnings."""
    ends, _, _ = walked_through(track)
    return list(ends.items())


def lone(track):
    """The places of the ends that end no note."""
    _, lone_ends, _ = walked_through(track)
    return lone_ends


def hung(track):
    """The places of the notes that nothing ends."""
    return [begin for begin, end in notes(track) if end is None]


def over(track):
    """The places of the notes that begin while one of their channel and key sounds."""
    _, _, overs = walked_through(track)
    return overs


def cured(track, *, until=None):
    """The track without its lone ends, and with an end for each hung note behind all."""
    tick = last_tick(track) if until is None else until
    need_behind(track, tick)
    away = lone(track)
    told = [event for place, event in enumerate(track) if place not in away]
    for place in hung(track):
        told.append(end_of(track[place], tick))
    need_room(told)
    return told


def end_of(event, tick):
    """The `off` at a tick that ends the note which an event begins."""
    return tick, "off", event[2], event[3], END_FORCE
