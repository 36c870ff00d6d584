"""Events and tracks: what they are, and tracks moved or with an event more."""

from reedtapes.errors import BadEvent, BadKey, BadTick, BadTrack, Full

MOST_TICK = 999999
MOST_KEY = 127
MOST_EVENTS = 200
MOST_SIGNS = 12
# The force of an `off` that may be written as an `on`, and of each one that is put in.
END_FORCE = 64
SIGNS = "abcdefghijklmnopqrstuvwxyz0123456789 "
# The least and the most of each number behind an event's word.
BOUNDS = {
    "on": ((0, 15), (0, 127), (1, 127)),
    "off": ((0, 15), (0, 127), (0, 127)),
    "knob": ((0, 15), (0, 127), (0, 127)),
    "voice": ((0, 15), (0, 127)),
}


def is_event(event):
    """Whether a tuple of numbers and texts is an event."""
    if len(event) < 2 or not is_within(event[0], 0, MOST_TICK):
        return False
    word = event[1]
    if word == "mark":
        return len(event) == 3 and is_text(event[2])
    return word in BOUNDS and are_within(event[2:], BOUNDS[word])


def is_within(thing, low, high):
    """Whether a number or a text is a number within two bounds."""
    return isinstance(thing, int) and not isinstance(thing, bool) and low <= thing <= high


def are_within(things, bounds):
    """Whether there is one number for each pair of bounds, and within it."""
    if len(things) != len(bounds):
        return False
    return all([is_within(thing, low, high) for thing, (low, high) in zip(things, bounds)])


def is_text(thing):
    """Whether a number or a text is the text of a mark."""
    if not isinstance(thing, str) or len(thing) > MOST_SIGNS:
        return False
    return all([sign in SIGNS for sign in thing])


def need_track(track):
    """Refuse a list of tuples that is no track, at the first place for which it is none."""
    ahead = 0
    for place, event in enumerate(track):
        if place >= MOST_EVENTS or not is_event(event) or event[0] < ahead:
            raise BadTrack(place)
        ahead = event[0]


def need_tick(tick):
    """Refuse a number that is no tick."""
    if not is_within(tick, 0, MOST_TICK):
        raise BadTick(f"{tick} is no tick")


def last_tick(track):
    """The tick of a track's last event, 0 where it has none."""
    return track[-1][0] if len(track) > 0 else 0


def need_behind(track, tick):
    """Refuse a number that is no tick, or one below the last tick of a track."""
    if tick < last_tick(track) or tick > MOST_TICK:
        raise BadTick(f"{tick} is no tick behind a whole track")


def need_room(track):
    """Refuse a list of more events than a track may have."""
    if len(track) > MOST_EVENTS:
        raise Full(f"a track has at most {MOST_EVENTS} events")


def ticks_of(track):
    """The ticks of a track's events."""
    return [event[0] for event in track]


def with_ticks(track, ticks):
    """The events of a track with these numbers for their ticks."""
    return [(tick,) + event[1:] for tick, event in zip(ticks, track)]


def retimed(track, ticks):
    """The track with these ticks instead of its own, each of which must be one."""
    for tick in ticks:
        need_tick(tick)
    return with_ticks(track, ticks)


def at_tick(tick, things):
    """Events without their ticks as events at a tick."""
    return [(tick,) + thing for thing in things]


def later(track, by):
    """The track with so many ticks added to each tick."""
    return retimed(track, [tick + by for tick in ticks_of(track)])


def keyed(track, by):
    """The track with so many keys added to each key."""
    return [moved_key(event, by) for event in track]


def moved_key(event, by):
    """The event with its key, if it has one, and so many."""
    if event[1] not in ("on", "off"):
        return event
    tick, word, channel, key, force = event
    if not is_within(key + by, 0, MOST_KEY):
        raise BadKey(f"{key + by} is no key")
    return tick, word, channel, key + by, force


def put_in(track, event):
    """The track with an event more, behind all those up to its tick."""
    if not is_event(event):
        raise BadEvent(f"{event} is no event")
    place = len([tick for tick in ticks_of(track) if tick <= event[0]])
    told = list(track)
    told.insert(place, event)
    need_room(told)
    return told
