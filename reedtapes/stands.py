"""Stands: what sounds and what is set behind some events."""

from reedtapes.events import END_FORCE, need_tick


def sounds_after(sounds, thing):
    """The notes that sound, as (channel, key, force), behind a thing more."""
    if thing[0] == "on":
        place = len([note for note in sounds if note[:2] <= thing[1:3]])
        return sounds[:place] + [thing[1:]] + sounds[place:]
    if thing[0] == "off":
        for place, note in enumerate(sounds):
            if note[:2] == thing[1:3]:
                return sounds[:place] + sounds[place + 1:]
    return sounds


def set_after(rows, thing):
    """The rising rows of what is set, each with its value last, behind a thing that sets one."""
    kept = [row for row in rows if row[:-1] != thing[1:-1]]
    if thing[-1] == 0:
        return kept
    return sorted(kept + [thing[1:]])


class Stand:
    """The notes that sound, and the knobs and voices that are not at 0."""

    def __init__(self):
        # A stand shares these lists with others, and so none is ever changed.
        self._sounds = []
        self._knobs = []
        self._voices = []

    def after(self, thing):
        """The stand behind an event without its tick."""
        told = Stand()
        told._sounds = sounds_after(self._sounds, thing)
        told._knobs = set_after(self._knobs, thing) if thing[0] == "knob" else self._knobs
        told._voices = set_after(self._voices, thing) if thing[0] == "voice" else self._voices
        return told

    def sounds(self):
        """The notes that sound, as (channel, key, force), by channel and key, the eldest first."""
        return list(self._sounds)

    def knobs(self):
        """The knobs that are not at 0, as (channel, knob, value), rising."""
        return list(self._knobs)

    def voices(self):
        """The voices that are not 0, as (channel, voice), rising."""
        return list(self._voices)

    def __eq__(self, other):
        return (isinstance(other, Stand) and self._sounds == other._sounds and self._knobs == other._knobs
                and self._voices == other._voices)

    def __len__(self):
        return len(self._sounds)


def stand_at(track, tick):
    """The stand behind all events up to a tick."""
    need_tick(tick)
    return stand_behind(Stand(), [event for event in track if event[0] <= tick])


def stand_behind(stand, events):
    """The stand behind some events, from the one ahead of them."""
    for event in events:
        stand = stand.after(event[1:])
    return stand


def things(word, rows):
    """The things of a word that lead to these rows of a stand, from one that has none of them."""
    return [(word,) + row for row in rows]


def ends(sounds):
    """The things that end notes which sound."""
    return [("off", channel, key, END_FORCE) for channel, key, _ in sounds]
