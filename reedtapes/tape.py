"""Tapes: tracks that share a map, and their bytes."""

from reedtapes.errors import BadBytes, Full
from reedtapes.events import MOST_TICK, need_track
from reedtapes.feeder import Feeder
from reedtapes.gaps import gap_bytes, gap_within
from reedtapes.heads import written
from reedtapes.maps import MOST_BEAT, MOST_PACE, MOST_PACES, Map

MOST_TRACKS = 6


class Tape:
    """Some tracks and their map, neither of which ever changes."""

    def __init__(self, beat=96, tracks=((),), *, paces=()):
        led = Map(beat, paces)
        if len(tracks) < 1 or len(tracks) > MOST_TRACKS:
            raise Full(f"a tape has 1 to {MOST_TRACKS} tracks")
        for track in tracks:
            need_track(track)
        self._led = led
        self._tracks = [list(track) for track in tracks]

    def beat(self):
        """How many ticks make a beat."""
        return self._led.beat()

    def tracks(self):
        """The tracks, by their numbers."""
        return [list(track) for track in self._tracks]

    def paces(self):
        """The pairs (tick, pace), rising."""
        return self._led.paces()

    def paced(self):
        """The map of the tape."""
        return self._led.twin()

    def __eq__(self, other):
        return isinstance(other, Tape) and self._led == other._led and self._tracks == other._tracks

    def __len__(self):
        return len([event for track in self._tracks for event in track])

    def __repr__(self):
        return f"<tape of {len(self._tracks)} tracks>"


def tape_of(led, tracks):
    """The tape of a map and of 1 to 6 tracks that are good, without looking at each event again."""
    told = Tape()
    told._led = led.twin()
    told._tracks = [list(track) for track in tracks]
    return told


def tape_bytes(tape):
    """The tape in the fewest bytes."""
    paces, tracks = tape.paces(), tape.tracks()
    row = gap_bytes(tape.beat()) + gap_bytes(len(paces))
    ahead = 0
    for tick, pace in paces:
        row.extend(gap_bytes(tick - ahead) + gap_bytes(pace))
        ahead = tick
    row.extend(gap_bytes(len(tracks)))
    for track in tracks:
        row.extend(written(track))
    return row


def read_tape(row):
    """The tape that is written in a row of bytes."""
    beat, place = gap_within(row, 0, 1, MOST_BEAT)
    paces, place = paces_read(row, place)
    many, place = gap_within(row, place, 1, MOST_TRACKS)
    tracks = []
    for _ in range(many):
        track, place = track_read(row, place)
        tracks.append(track)
    if place < len(row):
        raise BadBytes(place)
    return Tape(beat, tracks, paces=paces)


def paces_read(row, at):
    """The paces whose bytes, ahead of them how many there are, begin at a place, and the place behind them."""
    many, place = gap_within(row, at, 0, MOST_PACES)
    paces = []
    for left in reversed(range(many)):
        ahead, least = (paces[-1][0], 1) if len(paces) > 0 else (0, 0)
        # Each pace to come needs a tick of its own.
        gap, place = gap_within(row, place, least, MOST_TICK - left - ahead)
        pace, place = gap_within(row, place, 1, MOST_PACE)
        paces.append((ahead + gap, pace))
    return paces, place


def track_read(row, at):
    """The track whose bytes begin at a place of a row, and the place behind them."""
    feeder = Feeder()
    place = at
    while place < len(row) and not feeder.closed():
        feed_one(feeder, row[place], place)
        place += 1
    if not feeder.closed():
        raise BadBytes(place)
    return feeder.finish(), place


def feed_one(feeder, byte, place):
    """Feed a byte that stands at a place of a longer row."""
    try:
        feeder.feed([byte])
    except BadBytes:
        raise BadBytes(place) from None
