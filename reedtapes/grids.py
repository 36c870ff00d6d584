"""Grids: tracks moved to lines, and moved back; and tracks led by another map."""

from reedtapes.errors import BadGrid, BadPaper
from reedtapes.events import is_within, need_track, retimed, ticks_of, with_ticks

MOST_STEP = 9999
# The share with which a tick is moved all the way to its line.
WHOLE = 100


class Grid:
    """Lines, and by how much ticks are moved to them."""

    def __init__(self, step, *, swing=0, share=WHOLE):
        if not (is_within(step, 1, MOST_STEP) and is_within(swing, 0, step - 1) and is_within(share, 0, WHOLE)):
            raise BadGrid(f"{step}, {swing} and {share} make no grid")
        self._step = step
        self._swing = swing
        self._share = share

    def line(self, tick):
        """The line that is nearest to a tick, of two the earlier."""
        at = tick // self._step
        # No line ahead of these two is nearer: where the swing puts the first one behind the tick, it is less than a
        # step away, and those ahead of it are a step at least.
        return min([self._line_of(at), self._line_of(at + 1)], key=lambda place: abs(place - tick))

    def moved(self, tick):
        """The tick as it is moved towards its line."""
        return tick + (self._share * (self.line(tick) - tick) + WHOLE // 2) // WHOLE

    def __eq__(self, other):
        return (isinstance(other, Grid) and self._step == other._step and self._swing == other._swing
                and self._share == other._share)

    def _line_of(self, number):
        """The line of a number, which is later by the swing where the number is odd."""
        return number * self._step + number % 2 * self._swing


def evened(track, grid):
    """The track with all its ticks moved, and the old ticks."""
    olds = ticks_of(track)
    return retimed(track, [grid.moved(tick) for tick in olds]), olds


def unevened(track, olds):
    """The track at its old ticks again."""
    if len(olds) != len(track):
        raise BadPaper(f"{len(olds)} ticks are no paper of {len(track)} events")
    told = with_ticks(track, olds)
    need_track(told)
    return told


def mapped(track, old, new):
    """The track with its moments, as near as can be, by another map, and what each event is off."""
    moments = [old.moment(tick) for tick in ticks_of(track)]
    told = retimed(track, [new.near(moment) for moment in moments])
    return told, [off_by(event[0], new.tick_of(moment)) for event, moment in zip(told, moments)]


def off_by(tick, ought):
    """A tick less a share, as a share."""
    top, bottom = ought
    # A whole number less a share in lowest terms is in lowest terms.
    return tick * bottom - top, bottom
