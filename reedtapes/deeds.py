"""Deeds: what each of them makes of the tapes of a deck."""

from reedtapes.errors import BadChannel, BadDeed, BadName, Full, NoEvent, NoTape, Taken
from reedtapes.events import is_within, keyed, later, need_room, need_tick, put_in, retimed, ticks_of
from reedtapes.grids import Grid, evened
from reedtapes.maps import Map, need_beat
from reedtapes.notes import cured
from reedtapes.tape import MOST_TRACKS, Tape, tape_of
from reedtapes.tracks import apart, cut, merged, need_number, whole_ticks

MOST_TAPES = 6
MOST_LETTERS = 8
LETTERS = "abcdefghijklmnopqrstuvwxyz"
MOST_CHANNEL = 15
# What stands behind the word of each deed.
THINGS = {
    "new": ("word", "number"),
    "drop": ("word",),
    "add": ("word",),
    "put": ("word", "number", "event"),
    "take": ("word", "number", "number"),
    "pace": ("word", "number", "number"),
    "unpace": ("word", "number"),
    "later": ("word", "number", "number"),
    "keyed": ("word", "number", "number"),
    "even": ("word", "number", "number", "number", "number"),
    "cure": ("word", "number"),
    "merge": ("word", "number", "number"),
    "part": ("word", "number", "number"),
    "beat": ("word", "number"),
    "cut": ("word", "number", "word"),
}


def tapes_behind(tapes, deed):
    """The tapes, by their names, behind a deed more; those ahead of it stay as they are."""
    need_deed(deed)
    word, name, *things = deed
    if word == "new":
        return with_new(tapes, name, *things)
    need_tape(tapes, name)
    if word == "drop":
        return {other: tape for other, tape in tapes.items() if other != name}
    if word == "cut":
        return with_cut(tapes, name, *things)
    return {**tapes, name: tape_behind(tapes[name], word, things)}


def need_deed(deed):
    """Refuse a tuple that has another first text than a deed, or another count of things."""
    if len(deed) == 0 or deed[0] not in THINGS or len(deed) != 1 + len(THINGS[deed[0]]):
        raise BadDeed(f"{deed} is no deed")


def need_tape(tapes, name):
    """Refuse a name that no tape has."""
    if name not in tapes:
        raise NoTape(f"no tape is called {name}")


def is_name(thing):
    """Whether a number or a text is a name that a tape may have."""
    if not isinstance(thing, str) or len(thing) < 1 or len(thing) > MOST_LETTERS:
        return False
    return all([sign in LETTERS for sign in thing])


def need_free_name(tapes, name):
    """Refuse what is no name, or the name of a tape."""
    if not is_name(name):
        raise BadName(f"no tape may be called {name}")
    if name in tapes:
        raise Taken(f"a tape is called {name} already")


def need_few_tapes(tapes):
    """Refuse more tapes than a deck may have."""
    if len(tapes) > MOST_TAPES:
        raise Full(f"a deck has at most {MOST_TAPES} tapes")


def with_new(tapes, name, beat):
    """The tapes, and a new one of a beat."""
    need_free_name(tapes, name)
    told = {**tapes, name: Tape(beat)}
    need_few_tapes(told)
    return told


def with_cut(tapes, name, tick, other):
    """The tapes with one cut at a tick, whose second pieces are another tape."""
    need_tick(tick)
    need_free_name(tapes, other)
    tape = tapes[name]
    pieces = [cut(track, tick) for track in tape.tracks()]
    here, there = maps_cut(tape.paced(), tick)
    first = tape_of(here, [piece for piece, _ in pieces])
    second = tape_of(there, [piece for _, piece in pieces])
    told = {**tapes, name: first, other: second}
    need_few_tapes(told)
    return told


def maps_cut(led, tick):
    """The maps of the pieces ahead of a tick and from it on."""
    ahead = [pair for pair in led.paces() if pair[0] < tick]
    behind = [(start - tick, pace) for start, pace in led.paces() if start > tick]
    return Map(led.beat(), ahead), Map(led.beat(), [(0, led.pace_at(tick))] + behind)


def tape_behind(tape, word, things):
    """The tape behind a deed that leaves all others alone."""
    if word == "add":
        return with_tracks(tape, tape.tracks() + [[]])
    if word == "pace":
        return with_pace(tape, *things)
    if word == "unpace":
        return without_pace(tape, *things)
    if word == "beat":
        return at_other_beat(tape, *things)
    need_number(things[0], len(tape.tracks()))
    if word == "merge":
        return with_merged(tape, *things)
    if word == "part":
        return with_parted(tape, *things)
    return with_worked(tape, word, *things)


def with_tracks(tape, tracks):
    """The tape with other tracks, each of which is good."""
    if len(tracks) > MOST_TRACKS:
        raise Full(f"a tape has at most {MOST_TRACKS} tracks")
    return tape_of(tape.paced(), tracks)


def with_pace(tape, tick, pace):
    """The tape with a pace from a tick on."""
    led = tape.paced()
    led.put(tick, pace)
    return tape_of(led, tape.tracks())


def without_pace(tape, tick):
    """The tape without the pace that begins at a tick."""
    led = tape.paced()
    led.drop(tick)
    return tape_of(led, tape.tracks())


def at_other_beat(tape, beat):
    """The tape at another beat, at which all its ticks must be whole."""
    need_beat(beat)
    tracks, paces = tape.tracks(), tape.paces()
    rows = [whole_ticks(ticks_of(track), tape.beat(), beat) for track in tracks]
    starts = whole_ticks([tick for tick, _ in paces], tape.beat(), beat)
    # Only now, when all are known to be whole, may one of them be found to be beyond.
    told = [retimed(track, ticks) for track, ticks in zip(tracks, rows)]
    led = Map(beat, [(start, pace) for start, (_, pace) in zip(starts, paces)])
    return tape_of(led, told)


def with_merged(tape, number, other):
    """The tape with the events of another track in a track, and without the other one."""
    tracks = tape.tracks()
    need_number(other, len(tracks))
    if number == other:
        raise BadDeed(f"track {number} can't be merged with itself")
    tracks[number] = [event for _, event in merged([tracks[number], tracks[other]])]
    need_room(tracks[number])
    del tracks[other]
    return with_tracks(tape, tracks)


def with_parted(tape, number, channel):
    """The tape with the events of a channel in a further track, the last one."""
    if not is_within(channel, 0, MOST_CHANNEL):
        raise BadChannel(f"{channel} is no channel")
    tracks = tape.tracks()
    its, others = apart(tracks[number], channel)
    tracks[number] = others
    return with_tracks(tape, tracks + [its])


def with_worked(tape, word, number, *things):
    """The tape behind a deed that leaves all tracks but one alone."""
    tracks = tape.tracks()
    tracks[number] = track_behind(tracks[number], word, things)
    return with_tracks(tape, tracks)


def track_behind(track, word, things):
    """The track behind a deed of its own."""
    if word == "put":
        return put_in(track, *things)
    if word == "take":
        return without_event(track, *things)
    if word == "later":
        return later(track, *things)
    if word == "keyed":
        return keyed(track, *things)
    if word == "even":
        return moved_to_lines(track, *things)
    return cured(track)


def without_event(track, place):
    """The track without the event at a place."""
    if place < 0 or place >= len(track):
        raise NoEvent(f"there is no event at {place}")
    return track[:place] + track[place + 1:]


def moved_to_lines(track, step, swing, share):
    """The track evened by the grid of these numbers."""
    told, _ = evened(track, Grid(step, swing=swing, share=share))
    return told
