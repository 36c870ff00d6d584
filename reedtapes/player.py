"""Players: a track played on, or led by leaps, from tick to tick."""

from reedtapes.errors import BadNumber, BadTick
from reedtapes.events import need_tick
from reedtapes.stands import Stand, ends, stand_behind, things

# Behind how many events a stand is kept, where nothing else is told.
EVERY = 16
# Where a player stands at first, ahead of all ticks.
AHEAD = -1


def kept_stands(track, every):
    """The stands behind 0 events, and so many, and twice as many, as far as the track goes."""
    kept = [Stand()]
    for begin in range(0, len(track) - every + 1, every):
        kept.append(stand_behind(kept[-1], track[begin:begin + every]))
    return kept


def forces_by_key(stand):
    """The forces of the notes that sound, the eldest first, by (channel, key)."""
    told = {}
    for channel, key, force in stand.sounds():
        told.setdefault((channel, key), []).append(force)
    return told


def other_keys(old, new):
    """A dict of the pairs (channel, key) whose notes are others in the two stands."""
    here, there = forces_by_key(old), forces_by_key(new)
    return {pair: True for pair in {**here, **there} if here.get(pair) != there.get(pair)}


def of_keys(sounds, pairs):
    """Those of the notes whose channel and key are among the pairs."""
    return [note for note in sounds if note[:2] in pairs]


def other_rows(old, new):
    """The rows of what is set, each with its value last, that lead from old ones to new ones, rising."""
    here = {row[:-1]: row[-1] for row in old}
    there = {row[:-1]: row[-1] for row in new}
    others = [place for place in {**here, **there} if here.get(place, 0) != there.get(place, 0)]
    return [place + (there.get(place, 0),) for place in sorted(others)]


def way(old, new):
    """The things that lead from a stand to another one."""
    pairs = other_keys(old, new)
    return (ends(of_keys(old.sounds(), pairs))
            + things("voice", other_rows(old.voices(), new.voices()))
            + things("knob", other_rows(old.knobs(), new.knobs()))
            + things("on", of_keys(new.sounds(), pairs)))


class Player:
    """One who stands at a tick of a track, and plays on or leaps from there."""

    def __init__(self, track, *, every=EVERY):
        if every < 1:
            raise BadNumber(f"no stand is kept behind every {every} events")
        self._track = list(track)
        self._every = every
        self._kept = kept_stands(self._track, every)
        self._tick = AHEAD
        self._walked = 0

    def tick(self):
        """Where the player stands."""
        return self._tick

    def play(self, tick):
        """Play on to a tick, and tell the events on the way."""
        need_tick(tick)
        if tick < self._tick:
            raise BadTick(f"{tick} is behind already")
        begin = self._many_up_to(self._tick)
        self._tick = tick
        return self._track[begin:self._many_up_to(tick)]

    def leap(self, tick):
        """Leap to a tick, and tell the things that lead there."""
        need_tick(tick)
        old = self._walk_to(self._tick)
        self._tick = tick
        return way(old, self._walk_to(tick))

    def stand(self):
        """The stand where the player is."""
        return self._walk_to(self._tick)

    def heard(self, tick):
        """The stand at a tick, without going there."""
        need_tick(tick)
        return self._walk_to(tick)

    def walked(self):
        """How many events were walked so far to tell stands."""
        return self._walked

    def twin(self):
        """Another player like this one, and where this one is."""
        told = Player(self._track, every=self._every)
        told._tick = self._tick
        told._walked = self._walked
        return told

    def _many_up_to(self, tick):
        """How many events there are up to a tick."""
        return len([event for event in self._track if event[0] <= tick])

    def _walk_to(self, tick):
        """The stand at a tick, from the last kept one that isn't behind it."""
        many = self._many_up_to(tick)
        step = many // self._every
        events = self._track[step * self._every:many]
        self._walked += len(events)
        return stand_behind(self._kept[step], events)
