"""Promises [3], [5] and [8]: tracks read from their bytes, at once or in pieces, and bytes that are refused."""

import random
import unittest

from plain import chance_row, chance_track, ways, wide_track
from reedtapes.errors import BadBytes
from reedtapes.events import need_track
from reedtapes.feeder import Feeder, read_track
from reedtapes.gaps import gap_bytes, gap_read
from reedtapes.heads import written

SIGNS = "abcdefghijklmnopqrstuvwxyz0123456789 "
# With one of these behind it each row goes on to its end with which any row goes on at all.
ENDS = [[], [255], [0, 255], [0, 0, 255], [0, 0, 0, 255], [176, 0, 0, 255], [0, 176, 0, 0, 255]]
ENDS += [[97] * many + [0, 255] for many in range(1, 13)]


def plain_event(row, place, head):
    """The head, the event without its tick and the place behind it, of an event that begins at a place."""
    if row[place] >= 128:
        head, place = row[place], place + 1
    if head == 240:
        text = "".join(map(chr, row[place + 1:place + 1 + row[place]]))
        whole = row[place] <= 12 and len(text) == row[place] and set(text) <= set(SIGNS)
        return (0, ("mark", text), place + 1 + row[place]) if whole else None
    words = {8: "off", 9: "on", 10: "knob", 11: "voice"}
    many = 1 if head // 16 == 11 else 2
    data = row[place:place + many]
    if head // 16 not in words or len(data) < many or max(data) > 127:
        return None
    if head // 16 == 9 and data[1] == 0:
        return head, ("off", head % 16, data[0], 64), place + 2
    return head, (words[head // 16], head % 16, *data), place + many


def plain_read(row):
    """The track of a row of bytes, or None."""
    track, tick, place, head = [], 0, 0, 0
    try:
        while row[place:] != [0, 255]:
            gap, place = gap_read(row, place)
            tick += gap
            head, thing, place = plain_event(row, place, head)
            track.append((tick, *thing))
    except (BadBytes, IndexError, TypeError):
        return None
    return track if tick <= 999999 and len(track) <= 200 else None


def goes_on(row):
    return any(plain_read(row + end) is not None for end in ENDS)


def plain_at(row):
    """The place at which a row is refused, or None."""
    for place in range(len(row)):
        if not goes_on(row[:place + 1]):
            return place
    return len(row) if plain_read(row) is None else None


def refusal(call, *things):
    """The place at which a row is refused, or None."""
    try:
        call(*things)
    except BadBytes as error:
        return error.at
    return None


def spoilt(chance, row):
    """A row with one thing wrong, or right otherwise."""
    place = chance.randrange(len(row))
    byte = chance.choice([0, 1, 12, 13, 32, 97, 127, 128, 129, 144, 175, 191, 192, 239, 240, 241, 255])
    return chance.choice([
        row[:place], row[:place] + row[place + 1:], row[:place] + [byte] + row[place + 1:],
        row[:place] + [byte] + row[place:], row + [byte],
    ])


class Read(unittest.TestCase):
    def test_nothing(self):
        self.assertEqual(read_track([0, 255]), [])

    def test_one_of_each(self):
        rows = [
            ([5, 131, 60, 7, 0, 255], (5, "off", 3, 60, 7)),
            ([5, 128, 0, 0, 0, 255], (5, "off", 0, 0, 0)),
            ([5, 143, 127, 127, 0, 255], (5, "off", 15, 127, 127)),
            ([5, 144, 60, 64, 0, 255], (5, "on", 0, 60, 64)),
            ([5, 159, 127, 1, 0, 255], (5, "on", 15, 127, 1)),
            ([5, 160, 1, 0, 0, 255], (5, "knob", 0, 1, 0)),
            ([5, 175, 127, 127, 0, 255], (5, "knob", 15, 127, 127)),
            ([5, 176, 0, 0, 255], (5, "voice", 0, 0)),
            ([5, 191, 127, 0, 255], (5, "voice", 15, 127)),
            ([5, 240, 0, 0, 255], (5, "mark", "")),
            ([5, 240, 5, 97, 122, 32, 48, 57, 0, 255], (5, "mark", "az 09")),
            ([5, 240, 12] + [32] * 12 + [0, 255], (5, "mark", " " * 12)),
        ]
        for row, event in rows:
            self.assertEqual(read_track(row), [event])

    def test_each_sign(self):
        for sign in SIGNS:
            self.assertEqual(read_track([0, 240, 1, ord(sign), 0, 255]), [(0, "mark", sign)])

    def test_gaps_add_up(self):
        row = [127, 176, 1, 129, 0, 2, 0, 3, 129, 128, 0, 4, 0, 255]
        self.assertEqual(read_track(row), [(127, "voice", 0, 1), (255, "voice", 0, 2), (255, "voice", 0, 3),
                                           (16639, "voice", 0, 4)])

    def test_an_off_of_force_64_in_either_form(self):
        told = [(4, "off", 2, 60, 64)]
        self.assertEqual(read_track([4, 130, 60, 64, 0, 255]), told)
        self.assertEqual(read_track([4, 146, 60, 0, 0, 255]), told)

    def test_a_head_that_is_left_out_or_not(self):
        told = [(0, "on", 1, 60, 9), (4, "off", 1, 60, 64), (4, "on", 1, 62, 9)]
        for second in ([], [145]):
            for third in ([], [145]):
                row = [0, 145, 60, 9, 4] + second + [60, 0, 0] + third + [62, 9, 0, 255]
                self.assertEqual(read_track(row), told)
        self.assertEqual(read_track([0, 145, 60, 9, 4, 129, 60, 64, 0, 145, 62, 9, 0, 255]), told)
        self.assertEqual(read_track([0, 240, 0, 0, 240, 0, 0, 255]), [(0, "mark", "")] * 2)

    def test_all_ways_of_writing(self):
        chance = random.Random(11)
        for _ in range(200):
            track = chance_track(chance, chance.randint(0, 5))
            for row in ways(track):
                self.assertEqual(read_track(row), track, row)

    def test_long_ones(self):
        chance = random.Random(12)
        for many in (100, 199, 200) * 5:
            track = wide_track(chance, many)
            self.assertIsNone(need_track(track))
            self.assertEqual(read_track(written(track)), track)
            self.assertEqual(read_track(chance_row(chance, track)), track)

    def test_by_name_and_the_row_is_left_as_it_is(self):
        row = [0, 240, 0, 0, 255]
        told = read_track(row=row)
        self.assertEqual(row, [0, 240, 0, 0, 255])
        told.clear()
        self.assertEqual(read_track(row), [(0, "mark", "")])


class Refused(unittest.TestCase):
    def check(self, at, row):
        self.assertEqual(refusal(read_track, row), at, row[:60])

    def test_fields(self):
        with self.assertRaises(BadBytes) as told:
            read_track([])
        self.assertEqual((told.exception.at, told.exception.called), (0, "badbytes"))

    def test_too_early_an_end(self):
        row = [0, 145, 60, 9, 129, 0, 60, 0, 0, 240, 2, 97, 98, 0, 177, 5, 0, 255]
        for many in range(len(row)):
            self.check(many, row[:many])

    def test_bytes_behind_the_end(self):
        for byte in (0, 97, 128, 176, 255):
            self.check(2, [0, 255, byte])
            self.check(2, [0, 255, byte, 0, 255])
            self.check(5, [0, 176, 1, 0, 255, byte])

    def test_gaps(self):
        self.check(0, [128, 0, 176, 0, 0, 255])
        self.check(1, [129])
        self.check(3, [0, 176, 0, 128, 0, 0, 0, 255])
        # 999999 is 189, 132, 63: nothing beyond it, whatever stands behind.
        self.check(None, [189, 132, 63, 176, 0, 0, 255])
        self.check(2, [189, 132, 64, 176, 0, 0, 255])
        self.check(1, [189, 133, 0, 176, 0, 0, 255])
        self.check(1, [190, 128, 0, 176, 0, 0, 255])
        self.check(2, [129, 128, 128, 0, 176, 0, 0, 255])

    def test_a_tick_beyond_by_a_later_gap(self):
        ahead = gap_bytes(999998) + [176, 0]
        self.check(None, ahead + [1, 0, 0, 255])
        self.check(len(ahead), ahead + [2, 0, 0, 255])
        self.check(len(ahead), ahead + [129, 0, 0, 0, 255])
        ahead = gap_bytes(999871) + [176, 0]
        self.check(None, ahead + [129, 0, 0, 0, 255])
        self.check(len(ahead) + 1, ahead + [129, 1, 0, 0, 255])
        self.check(len(ahead), ahead + [130, 0, 0, 0, 255])
        ahead = gap_bytes(999872) + [176, 0]
        self.check(None, ahead + [127, 0, 0, 255])
        self.check(len(ahead), ahead + [129, 0, 0, 0, 255])

    def test_heads(self):
        for byte in list(range(192, 240)) + list(range(241, 255)):
            self.check(1, [0, byte, 0, 0, 0, 255])
            self.check(4, [0, 176, 0, 0, byte, 0, 0, 0, 255])
        for byte in range(128):
            self.check(1, [0, byte, 0, 0, 0, 255])

    def test_the_end_needs_a_gap_of_nought(self):
        self.check(1, [1, 255])
        self.check(2, [129, 0, 255])
        self.check(4, [0, 176, 5, 3, 255])
        self.check(4, [0, 176, 5, 255])

    def test_a_head_left_out_behind_a_mark(self):
        self.check(4, [0, 240, 0, 0, 97, 0, 255])
        self.check(7, [0, 176, 5, 0, 240, 0, 0, 5, 0, 255])

    def test_data(self):
        for head in (128, 143, 144, 159, 160, 175):
            self.check(2, [0, head, 128, 0, 0, 255])
            self.check(3, [0, head, 0, 128, 0, 255])
            self.check(3, [0, head, 127, 255, 0, 255])
        self.check(2, [0, 176, 128, 0, 255])
        self.check(2, [0, 240, 13] + [97] * 13 + [0, 255])
        self.check(2, [0, 240, 128, 0, 255])

    def test_signs_of_a_mark(self):
        for byte in range(256):
            told = None if byte < 128 and chr(byte) in SIGNS else 4
            self.check(told, [0, 240, 2, 97, byte, 0, 255])

    def test_the_201st_event(self):
        row = [0, 176] + [5, 0] * 200
        self.check(None, row + [255])
        for byte in (0, 5, 127, 128, 144, 176, 240, 254):
            self.check(len(row), row + [byte, 0, 0, 255])
        for byte in (1, 127, 128, 129, 255):
            self.check(len(row) - 1, row[:-1] + [byte, 0, 0, 255])
        self.check(len(row), row)
        self.check(len(row) - 1, row[:-1])
        self.check(None, row[:-2] + [255])

    def test_whatever_stands_behind(self):
        for behind in ([], [0], [255], [0, 255], [300] * 3, list(range(256))):
            self.check(1, [0, 200] + behind)

    def test_no_bytes_at_all(self):
        self.check(0, [256, 0, 255])
        self.check(0, [-1, 0, 255])
        self.check(2, [0, 176, -1, 0, 255])
        self.check(3, [0, 240, 1, -5, 0, 255])

    def test_each_next_byte(self):
        chance = random.Random(13)
        for _ in range(20):
            row = chance_row(chance, wide_track(chance, chance.randint(0, 4)))
            row = row[:chance.randint(0, len(row))]
            for byte in range(256):
                self.assertEqual(refusal(read_track, row + [byte]), plain_at(row + [byte]))
                self.assertEqual(refusal(read_track, row + [byte] + [250] * 3), plain_at(row + [byte] + [250] * 3))

    def test_spoilt_rows(self):
        chance = random.Random(14)
        for _ in range(1500):
            row = chance_row(chance, wide_track(chance, chance.randint(0, 5)))
            for _ in range(chance.randint(1, 3)):
                row = spoilt(chance, row) or [0]
            self.check(plain_at(row), row)
            if plain_at(row) is None:
                self.assertEqual(read_track(row), plain_read(row))

    def test_spoilt_rows_at_the_last_ticks(self):
        chance = random.Random(15)
        for _ in range(500):
            row = gap_bytes(chance.randint(999000, 999999)) + [176, 5]
            row += chance_row(chance, wide_track(chance, chance.randint(1, 4), 400))
            self.check(plain_at(row), row)

    def test_5000_bytes(self):
        self.check(601, ([0, 176, 5] * 1666 + [0, 255])[:5000])
        self.check(2, [0, 255] * 2500)
        self.check(1, [255] * 5000)


class Pieces(unittest.TestCase):
    def test_a_new_one(self):
        feeder = Feeder()
        self.assertEqual((feeder.events(), feeder.closed(), feeder.busy(), len(feeder)), ([], False, False, 0))
        self.assertEqual(refusal(feeder.finish), 0)

    def test_byte_by_byte(self):
        row = [5, 145, 60, 9, 129, 0, 60, 0, 0, 240, 2, 97, 98, 0, 240, 0, 0, 177, 7, 0, 255]
        whole = {3: (5, "on", 1, 60, 9), 7: (133, "off", 1, 60, 64), 12: (133, "mark", "ab"), 15: (133, "mark", ""),
                 18: (133, "voice", 1, 7)}
        feeder, told = Feeder(), []
        for place, byte in enumerate(row):
            event = [whole[place]] if place in whole else []
            self.assertIs(feeder.closed(), False)
            self.assertEqual(refusal(feeder.finish), place)
            self.assertEqual(feeder.feed([byte]), event)
            told += event
            self.assertEqual(feeder.events(), told)
            self.assertEqual(len(feeder), place + 1)
            self.assertIs(feeder.busy(), False)
        self.assertIs(feeder.closed(), True)
        self.assertEqual(feeder.finish(), told)
        self.assertEqual(feeder.finish(), told)

    def test_pieces_of_any_lengths(self):
        chance = random.Random(16)
        for _ in range(200):
            track = wide_track(chance, chance.randint(0, 12))
            row = chance_row(chance, track)
            feeder, told, place = Feeder(), [], 0
            while place < len(row):
                many = chance.choice([0, 0, 1, 2, 3, 7, 20])
                told += feeder.feed(row[place:place + many])
                place += min(many, len(row) - place)
                self.assertEqual(feeder.events(), told)
                self.assertEqual(len(feeder), place)
                self.assertIs(feeder.closed(), place == len(row))
            self.assertEqual(told, track)
            self.assertEqual(feeder.finish(), track)

    def test_several_events_by_one_piece(self):
        feeder = Feeder()
        self.assertEqual(feeder.feed([0, 176, 5, 0, 6, 0]), [(0, "voice", 0, 5), (0, "voice", 0, 6)])
        self.assertEqual(feeder.feed([7, 1, 8, 1]), [(0, "voice", 0, 7), (1, "voice", 0, 8)])
        self.assertEqual(feeder.feed([]), [])
        self.assertEqual(feeder.feed([9, 0, 255]), [(2, "voice", 0, 9)])

    def test_the_empty_piece(self):
        feeder = Feeder()
        self.assertEqual(feeder.feed([]), [])
        self.assertEqual((len(feeder), feeder.closed()), (0, False))
        feeder.feed([0, 255])
        self.assertEqual(feeder.feed([]), [])
        self.assertEqual((len(feeder), feeder.closed()), (2, True))

    def test_a_bad_byte_in_a_piece(self):
        feeder = Feeder()
        self.assertEqual(refusal(feeder.feed, [0, 176, 5, 3, 200, 6, 0, 255]), 4)
        self.assertEqual(feeder.events(), [(0, "voice", 0, 5)])
        self.assertEqual((len(feeder), feeder.closed(), feeder.busy()), (4, False, False))
        self.assertEqual(refusal(feeder.finish), 4)
        self.assertEqual(refusal(feeder.feed, [255]), 4)
        self.assertEqual(refusal(feeder.feed, [250, 6]), 4)
        self.assertEqual(len(feeder), 4)
        self.assertEqual(refusal(feeder.feed, [240, 2, 97, 64, 98]), 7)
        self.assertEqual((len(feeder), feeder.busy()), (7, False))
        self.assertEqual(feeder.feed([98]), [(3, "mark", "ab")])
        self.assertEqual(refusal(feeder.feed, [0, 5]), 9)
        self.assertEqual(refusal(feeder.feed, [200]), 9)
        self.assertEqual(feeder.feed([176, 9, 0]), [(3, "voice", 0, 9)])
        self.assertEqual(refusal(feeder.feed, [255, 0]), 13)
        self.assertEqual((feeder.closed(), len(feeder)), (True, 13))
        self.assertEqual(feeder.finish(), [(0, "voice", 0, 5), (3, "mark", "ab"), (3, "voice", 0, 9)])
        self.assertEqual(feeder.events(), feeder.finish())

    def test_bad_bytes_in_a_gap_change_nothing(self):
        feeder = Feeder()
        self.assertEqual(refusal(feeder.feed, [128]), 0)
        self.assertEqual(refusal(feeder.feed, [189, 133]), 1)
        self.assertEqual(refusal(feeder.feed, [132, 64]), 2)
        self.assertEqual(refusal(feeder.feed, [255, 63]), 2)
        self.assertEqual(feeder.feed([63, 240, 0]), [(999999, "mark", "")])
        self.assertEqual(refusal(feeder.feed, [1]), 5)
        self.assertEqual(feeder.feed([0, 240, 0, 0, 255]), [(999999, "mark", "")])

    def test_bytes_behind_the_end(self):
        feeder = Feeder()
        self.assertEqual(refusal(feeder.feed, [0, 255, 0, 255]), 2)
        self.assertIs(feeder.closed(), True)
        self.assertEqual(refusal(feeder.feed, [0]), 2)
        self.assertEqual(refusal(feeder.feed, [255]), 2)
        self.assertEqual((len(feeder), feeder.events(), feeder.finish()), (2, [], []))

    def test_bad_bytes_among_all(self):
        chance = random.Random(17)
        for _ in range(200):
            track = wide_track(chance, chance.randint(0, 8))
            row = chance_row(chance, track)
            feeder, place = Feeder(), 0
            while place < len(row):
                many = chance.randint(0, 6)
                piece = row[place:place + many]
                place += len(piece)
                # Within a gap there may be none.
                bad = [byte for byte in (0, 64, 128, 190, 200, 255) if not goes_on(row[:place] + [byte])] or [256]
                self.assertEqual(refusal(feeder.feed, piece + [chance.choice(bad)] + row[place:]), place)
                self.assertEqual((len(feeder), feeder.busy()), (place, False))
            self.assertEqual(feeder.finish(), track)

    def test_two_side_by_side(self):
        one, two = Feeder(), Feeder()
        one.feed([0, 176, 5])
        self.assertEqual((two.events(), len(two)), ([], 0))
        self.assertEqual(refusal(two.feed, [0, 5]), 1)
        two.feed([255])
        self.assertEqual((one.closed(), two.closed()), (False, True))
        self.assertEqual(one.feed([0, 6, 0, 255]), [(0, "voice", 0, 6)])
        self.assertEqual((len(one), len(two)), (7, 2))
        self.assertEqual(two.finish(), [])

    def test_new_lists(self):
        feeder, row = Feeder(), [0, 176, 5, 0, 255]
        told = feeder.feed(row=row)
        row.clear()
        told.clear()
        feeder.events().clear()
        self.assertEqual(feeder.events(), [(0, "voice", 0, 5)])
        feeder.finish().clear()
        self.assertEqual(feeder.finish(), [(0, "voice", 0, 5)])
        self.assertEqual(len(feeder), 5)

    def test_a_piece_is_left_as_it_is(self):
        row = [0, 176, 5, 0, 200, 7]
        self.assertEqual(refusal(Feeder().feed, row), 4)
        self.assertEqual(row, [0, 176, 5, 0, 200, 7])

    def test_busy_while_bytes_are_taken(self):
        feeder, seen = Feeder(), []

        class Row(list):
            def __iter__(self):
                for byte in list.__iter__(self):
                    seen.append(feeder.busy())
                    yield byte

        feeder.feed(Row([0, 176]))
        self.assertEqual((seen, feeder.busy()), ([True, True], False))

    def test_200_events(self):
        track = [(tick, "off", 1, 60, 64) for tick in range(200)]
        feeder = Feeder()
        told = [event for byte in written(track) for event in feeder.feed([byte])]
        self.assertEqual(told, track)
        self.assertEqual(feeder.finish(), track)


if __name__ == "__main__":
    unittest.main()
