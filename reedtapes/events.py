"""Events and tracks: what they are, and tracks moved or with an event more."""

from reedtapes.errors import BadEvent, BadKey, BadTick, BadTrack, Full

MOST_TICK = 999999
MOST_KEY = 127
MOST_EVENTS = 200
MOST_SIGNS = 12
# The force of an `off` that may be written as an `on`, and of each one that is put in.
END_FORCE = 64
SIGNS = "abcdefghijklmnopqrstuvwxyz0123456789 "
# The least and the most of each number behind an event's word.
BOUNDS = {
    "on": ((0, 15), (0, 127), (1, 127)),
    "off": ((0, 15), (0, 127), (0, 127)),
    "knob": ((0, 15), (0, 127), (0, 127)),
    "voice": ((0, 15), (0, 127)),
}


def is_event(event):
    """Whether a tuple of numbers and texts is an event."""
    if len(event) < 2 or not is_within(event[0], 0, MOST_TICK):
        return False
    word = event[1]
    if word == "mark":
        return len(event) == 3 and is_text(event[2])
    return word in BOUNDS and are_within(event[2:], BOUNDS[word])


def is_within(thing, low, high):
    """Whether a number or a text is a number within two bounds."""
    return isinstance(thing, int) and not isinstance(thing, bool) and low <= thing <= high


def are_within(things, bounds):
    """Whether there is one number for each pair of bounds, and within it."""
    if len(things) != len(bounds):
        return False
    return all([is_within(thing, low, high) for thing, (low, high) in zip(things, bounds)])


def is_text(thing):
    """Whether a number or a text is the text of a mark."""
    if not isinstance(thing, str) or len(thing) > MOST_SIGNS:
        return False
    return all([sign in SIGNS for sign in thing])


def need_track(track):
    """Refuse a list of tuples that is no track, at the first place for which it is none."""
    ahead = 0
    for place, event in enumerate(track):
        if place >= MOST_EVENTS or not is_event(event) or event[0] < ahead:
            raise BadTrack(place)
        ahead = event[0]


def need_tick(tick):
    """Refuse a number that is no tick."""
    if not is_within(tick, 0, MOST_TICK):
        raise BadTick(f"{tick} is no tick")


def later(track, by):
    """The track with so many ticks added to each tick."""
    return [(moved_tick(event[0], by),) + event[1:] for event in track]


def moved_tick(tick, by):
    """A tick and so many, where that is a tick."""
    need_tick(tick + by)
    return tick + by


def keyed(track, by):
    """The track with so many keys added to each key."""
    return [moved_key(event, by) for event in track]


def moved_key(event, by):
    """The event with its key, if it has one, and so many."""
    if event[1] not in ("on", "off"):
        return event
    tick, word, channel, key, force = event
    if not is_within(key + by, 0, MOST_KEY):
        raise BadKey(f"{key + by} is no key")
    return tick, word, channel, key + by, force


def put_in(track, event):
    """The track with an event more, behind all those up to its tick."""
    if not is_event(event):
        raise BadEvent(f"{event} is no event")
    if len(track) >= MOST_EVENTS:
        raise Full(f"a track has at most {MOST_EVENTS} events")
    place = len([other for other in track if other[0] <= event[0]])
    told = list(track)
    told.insert(place, event)
    return told
