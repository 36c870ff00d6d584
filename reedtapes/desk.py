"""Desks: lines that are answered about a deck, or done to it."""

from reedtapes.deck import Deck
from reedtapes.deeds import THINGS
from reedtapes.errors import BadPage, MissingError, TapeError
from reedtapes.notes import hung
from reedtapes.pages import joined, read_words
from reedtapes.stands import stand_at
from reedtapes.tape import tape_bytes
from reedtapes.tracks import need_number

# What stands behind the word of each line that writes no deed.
LINES = {
    "undo": (),
    "redo": (),
    "names": (),
    "bytes": ("word",),
    "moment": ("word", "number"),
    "notes": ("word", "number", "number"),
    "hung": ("word", "number"),
}


def kinds_of_lines():
    """What stands behind the word of each line, deeds' rows among them."""
    kinds = dict(THINGS)
    kinds.update(dict(LINES))
    return kinds


def listed(things, between):
    """Texts in one line, or that there are none."""
    return between.join(things) if len(things) > 0 else "none"


def numbers_row(numbers):
    """Numbers in one line, or that there are none."""
    return listed([str(number) for number in numbers], " ")


def track_of(tape, number):
    """The track of a number."""
    tracks = tape.tracks()
    need_number(number, len(tracks))
    return tracks[number]


def moment_row(tape, tick):
    """The moment of a tick."""
    return joined(tape.paced().moment(tick))


def notes_row(tape, number, tick):
    """The notes of a track that sound at a tick."""
    sounds = stand_at(track_of(tape, number), tick).sounds()
    return listed([joined(note) for note in sounds], "; ")


def hung_row(tape, number):
    """The places of the notes of a track that nothing ends."""
    return numbers_row(hung(track_of(tape, number)))


class Desk:
    """One who answers lines about a deck."""

    def __init__(self, deck=None):
        self._deck = Deck() if deck is None else deck

    def deck(self):
        """The very deck."""
        return self._deck

    def say(self, line):
        """The answer to a line."""
        try:
            return self._answer(read_words(line, kinds_of_lines()))
        except BadPage:
            return "no line"
        except (TapeError, MissingError) as error:
            return f"refused {error.called}"

    def _answer(self, words):
        """The answer to the words of a line, which are of the right kinds."""
        word, *things = words
        if word in THINGS:
            self._deck.do(words)
            return "done"
        if word in ("undo", "redo"):
            return self._turn(word)
        if word == "names":
            return listed(self._deck.names(), " ")
        return self._answer_of(word, *things)

    def _turn(self, word):
        """Take back or do again what was last."""
        if word == "undo":
            self._deck.undo()
        else:
            self._deck.redo()
        return "done"

    def _answer_of(self, word, name, *things):
        """The answer to a question about the tape of a name."""
        tape = self._deck.tape(name)
        if word == "bytes":
            return numbers_row(tape_bytes(tape))
        if word == "moment":
            return moment_row(tape, *things)
        if word == "notes":
            return notes_row(tape, *things)
        return hung_row(tape, *things)
