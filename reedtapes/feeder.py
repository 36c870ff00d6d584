"""Tracks read from their bytes, at once or in pieces."""

from reedtapes.errors import BadBytes
from reedtapes.events import END_FORCE, MOST_EVENTS, MOST_SIGNS, MOST_TICK, SIGNS
from reedtapes.gaps import BASE, gap_goes_on
from reedtapes.heads import END, HEADS, NO_HEAD, left_by

MOST_BYTE = 255
CHANNELS = 16
# What the next byte of an event belongs to.
IN_GAP = 0
AT_HEAD = 1
IN_DATA = 2


def word_of(head):
    """The word of the events that are written with a head, None for no head."""
    for word, first in HEADS.items():
        many = 1 if word == "mark" else CHANNELS
        if first <= head < first + many:
            return word
    return None


def sign_of(number):
    """The sign of a mark's text that has this number, None where there is none."""
    for sign in SIGNS:
        if ord(sign) == number:
            return sign
    return None


def may_follow(byte, head, data):
    """Whether a byte may stand behind a head and the data so far, which aren't whole yet."""
    if word_of(head) != "mark":
        return byte < BASE
    if len(data) == 0:
        return byte <= MOST_SIGNS
    return sign_of(byte) is not None


def is_whole(head, data):
    """Whether these data, one at least, are all that belong to a head."""
    word = word_of(head)
    if word == "mark":
        return len(data) == data[0] + 1
    return len(data) == (1 if word == "voice" else 2)


def event_of(tick, head, data):
    """The event that is written with a head and its data."""
    word = word_of(head)
    if word == "mark":
        return tick, word, "".join([sign_of(number) for number in data[1:]])
    channel = head - HEADS[word]
    if word == "on" and data[1] == 0:
        return tick, "off", channel, data[0], END_FORCE
    return (tick, word, channel) + tuple(data)


class Feeder:
    """A track that is read while its bytes come."""

    def __init__(self):
        self._row = []
        self._told = []
        self._closed = False
        self._busy = False
        self._step = IN_GAP
        self._tick = 0
        self._gap = 0
        self._head = NO_HEAD
        self._data = []

    def feed(self, row):
        """Take bytes, up to the first bad one, and tell the events that became whole by them."""
        many = len(self._told)
        self._busy = True
        try:
            for byte in row:
                self._take(byte)
        finally:
            self._busy = False
        return self._told[many:]

    def events(self):
        """All events so far."""
        return list(self._told)

    def closed(self):
        """Whether the end is behind."""
        return self._closed

    def finish(self):
        """The track, whose end must be behind."""
        if not self._closed:
            raise BadBytes(len(self._row))
        return list(self._told)

    def busy(self):
        """Whether bytes are being taken."""
        return self._busy

    def __len__(self):
        return len(self._row)

    def _take(self, byte):
        """Take a byte, or refuse it."""
        if not self._goes_on(byte):
            raise BadBytes(len(self._row))
        self._row.append(byte)

    def _goes_on(self, byte):
        """Go on by a byte; False, and nothing changed, where no track's bytes go on with it."""
        if self._closed or byte < 0 or byte > MOST_BYTE:
            return False
        if self._step == IN_GAP:
            return self._goes_on_in_gap(byte)
        if self._step == AT_HEAD:
            return self._goes_on_at_head(byte)
        return self._goes_on_in_data(byte)

    def _goes_on_in_gap(self, byte):
        gap = self._gap * BASE + byte % BASE
        is_last = byte < BASE
        if not gap_goes_on(gap, is_last, 0, self._most_gap()):
            return False
        self._gap = gap
        if is_last:
            self._step = AT_HEAD
        return True

    def _most_gap(self):
        """The most that the gap may be; behind the last event only the end's gap, 0, may stand."""
        return 0 if len(self._told) == MOST_EVENTS else MOST_TICK - self._tick

    def _goes_on_at_head(self, byte):
        if byte == END[1] and self._gap == 0:
            self._closed = True
            return True
        if len(self._told) == MOST_EVENTS:
            return False
        if byte < BASE:
            return self._goes_on_without_head(byte)
        if word_of(byte) is None:
            return False
        self._head = byte
        self._step = IN_DATA
        return True

    def _goes_on_without_head(self, byte):
        """The head of the event ahead may be left out, and the byte is the first one of the data."""
        if self._head == NO_HEAD:
            return False
        self._step = IN_DATA
        return self._goes_on_in_data(byte)

    def _goes_on_in_data(self, byte):
        if not may_follow(byte, self._head, self._data):
            return False
        self._data.append(byte)
        if is_whole(self._head, self._data):
            self._end_event()
        return True

    def _end_event(self):
        """Keep the event that is whole, and stand ahead of the next one."""
        self._tick += self._gap
        self._told.append(event_of(self._tick, self._head, self._data))
        self._head = left_by(self._head)
        self._gap = 0
        self._data = []
        self._step = IN_GAP


def read_track(row):
    """The track that is written in a row of bytes."""
    feeder = Feeder()
    feeder.feed(row)
    return feeder.finish()
