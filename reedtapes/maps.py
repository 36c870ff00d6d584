"""Shares, and maps that lead ticks to moments through changes of pace."""

from math import gcd

from reedtapes.errors import BadBeat, BadMoment, BadPace, Full, NoPace
from reedtapes.events import is_within, need_tick

# The pace ahead of a map's first one.
USUAL = 500000
MOST_BEAT = 960
MOST_PACE = 16777215
MOST_PACES = 20


def share(top, bottom):
    """The pair (top, bottom) in lowest terms."""
    common = gcd(top, bottom)
    return top // common, bottom // common


def need_beat(beat):
    """Refuse a number that is no beat."""
    if not is_within(beat, 1, MOST_BEAT):
        raise BadBeat(f"{beat} is no beat")


def need_pace(pace):
    """Refuse a number that is no pace."""
    if not is_within(pace, 1, MOST_PACE):
        raise BadPace(f"{pace} is no pace")


def need_few(paces):
    """Refuse a dict of more paces than a map may have."""
    if len(paces) > MOST_PACES:
        raise Full(f"a map has at most {MOST_PACES} paces")


class Map:
    """How many ticks make a beat, and how long beats last from which tick on."""

    def __init__(self, beat, paces=()):
        need_beat(beat)
        told = {}
        for tick, pace in paces:
            need_tick(tick)
            need_pace(pace)
            told[tick] = pace
        need_few(told)
        self._beat = beat
        self._paces = told

    def put(self, tick, pace):
        """Let beats last so long from a tick on."""
        need_tick(tick)
        need_pace(pace)
        told = {**self._paces, tick: pace}
        need_few(told)
        self._paces = told

    def drop(self, tick):
        """Take the pace away that begins at a tick."""
        if tick not in self._paces:
            raise NoPace(f"no pace begins at {tick}")
        del self._paces[tick]

    def beat(self):
        """How many ticks make a beat."""
        return self._beat

    def paces(self):
        """The pairs (tick, pace), rising."""
        return sorted(self._paces.items())

    def pace_at(self, tick):
        """How many millionths of a second a beat lasts at a tick."""
        _, _, pace = self._leg_at(tick)
        return pace

    def moment(self, tick):
        """The millionths of a second from tick 0 to a tick, as a share."""
        start, ahead, pace = self._leg_at(tick)
        return share(ahead + (tick - start) * pace, self._beat)

    def tick_of(self, moment):
        """The tick of a moment, as a share."""
        top, bottom = moment
        if top < 0 or bottom < 1:
            raise BadMoment(f"{top} by {bottom} is no moment")
        begun = [leg for leg in self._legs() if leg[1] * bottom <= top * self._beat]
        start, ahead, pace = begun[-1]
        return share(start * pace * bottom + top * self._beat - ahead * bottom, pace * bottom)

    def near(self, moment):
        """The whole tick that is nearest to a moment, of two the lower."""
        top, bottom = self.tick_of(moment)
        # Half a tick less, rounded up.
        return -((bottom - 2 * top) // (2 * bottom))

    def twin(self):
        """Another map like this one."""
        return Map(self._beat, self.paces())

    def __eq__(self, other):
        return isinstance(other, Map) and self._beat == other._beat and self._paces == other._paces

    def __len__(self):
        return len(self._paces)

    def __repr__(self):
        return f"Map({self._beat}, {self.paces()})"

    def _legs(self):
        """The stretches of one pace: (first tick, its moment as millionths times the beat, pace)."""
        legs = [(0, 0, USUAL)]
        for tick, pace in self.paces():
            start, ahead, old = legs[-1]
            legs.append((tick, ahead + (tick - start) * old, pace))
        return legs

    def _leg_at(self, tick):
        """The last stretch that begins at a tick or ahead of it."""
        need_tick(tick)
        return [leg for leg in self._legs() if leg[0] <= tick][-1]
