"""Decks: tapes by names, and the deeds that are done to them."""

from reedtapes.deeds import need_tape, tapes_behind
from reedtapes.errors import NothingLeft


class Deck:
    """Some tapes by names, and what was done last."""

    def __init__(self):
        # Neither a dict of tapes nor a tape is ever changed, so that they may be kept in several places.
        self._tapes = {}
        self._ahead = {}
        # What was done, and what was taken back: triples (deeds, tapes ahead of them, tapes behind them).
        self._done = []
        self._undone = []
        self._busy = False

    def do(self, deed):
        """Do a deed."""
        self.do_all([deed])

    def do_all(self, deeds):
        """Do the deeds of a row, all or none."""
        self._busy = True
        try:
            self._do_row(list(deeds))
        finally:
            self._busy = False

    def undo(self):
        """Take back what was done last, and tell its deeds."""
        deeds, ahead, behind = self._last_of(self._done)
        self._undone.append((deeds, ahead, behind))
        self._turn_to(ahead)
        return list(deeds)

    def redo(self):
        """Do again what was taken back last, and tell its deeds."""
        deeds, ahead, behind = self._last_of(self._undone)
        self._done.append((deeds, ahead, behind))
        self._turn_to(behind)
        return list(deeds)

    def deeds(self):
        """The rows of deeds that stand, the eldest first."""
        return [list(deeds) for deeds, _, _ in self._done]

    def names(self):
        """The names of the tapes, rising."""
        return sorted(self._tapes)

    def tape(self, name):
        """The tape of a name."""
        need_tape(self._tapes, name)
        return self._tapes[name]

    def fresh(self):
        """The pairs (name, track) that the last change made other tracks of, rising."""
        told = []
        for name in self.names():
            olds = self._ahead[name].tracks() if name in self._ahead else []
            for number, track in enumerate(self._tapes[name].tracks()):
                if number >= len(olds) or track != olds[number]:
                    told.append((name, number))
        return told

    def busy(self):
        """Whether deeds are being done."""
        return self._busy

    def twin(self):
        """Another deck like this one, in which the same was done and taken back."""
        told = Deck()
        told._tapes = self._tapes
        told._ahead = self._ahead
        told._done = list(self._done)
        told._undone = list(self._undone)
        return told

    def __eq__(self, other):
        return isinstance(other, Deck) and self._tapes == other._tapes

    def __len__(self):
        return len(self._tapes)

    def _do_row(self, deeds):
        """Do deeds one by one; nothing is kept where one of them is refused."""
        ahead = self._tapes
        behind = ahead
        for deed in deeds:
            behind = tapes_behind(behind, deed)
        if len(deeds) > 0:
            self._done.append((deeds, ahead, behind))
            self._undone = []
            self._turn_to(behind)

    def _last_of(self, rows):
        """Take the last row away, which must be there."""
        if len(rows) == 0:
            raise NothingLeft("there is nothing left")
        return rows.pop()

    def _turn_to(self, tapes):
        """Let these be the tapes, and what is fresh be told by them."""
        self._ahead = self._tapes
        self._tapes = tapes
