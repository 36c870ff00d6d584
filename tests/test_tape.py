"""Promise [19]: tapes, their bytes, and tapes read from bytes."""

import inspect
import random
import unittest
from unittest import mock

from plain import chance_row, chance_track, wide_track
from reedtapes.errors import BadBeat, BadBytes, BadPace, BadTick, BadTrack, Full
from reedtapes.feeder import Feeder
from reedtapes.gaps import gap_bytes
from reedtapes.heads import written
from reedtapes.maps import Map
from reedtapes.tape import Tape, read_tape, tape_bytes

FAR = 10 ** 29
ON, OFF, MARK = (0, "on", 1, 60, 100), (5, "off", 1, 60, 64), (7, "mark", "a b")
TWENTY = [(tick * 10, 1000 + tick) for tick in range(20)]
NOTHING = [0, 255]


def marks(many):
    return [(0, "mark", "")] * many


def refused_at(row):
    """The `at` with which a row of bytes is refused, None where it is read."""
    try:
        read_tape(row)
    except BadBytes as error:
        return error.at
    return None


class Made(unittest.TestCase):
    def test_as_it_is_written(self):
        self.assertEqual(str(inspect.signature(Tape)), "(beat=96, tracks=((),), *, paces=())")
        self.assertRaises(TypeError, Tape, 96, [[]], [])

    def test_the_usual_one(self):
        tape = Tape()
        self.assertEqual((tape.beat(), tape.tracks(), tape.paces(), tape.paced()), (96, [[]], [], Map(96)))
        self.assertEqual(len(tape), 0)

    def test_what_it_tells(self):
        for tracks in ([[ON, OFF], [], [MARK]], ((ON, OFF), (), (MARK,)), ([ON, OFF], (), [MARK])):
            tape = Tape(beat=7, tracks=tracks, paces=((5, 9), (0, 4), (5, 8)))
            self.assertEqual(tape.beat(), 7)
            self.assertEqual(tape.tracks(), [[ON, OFF], [], [MARK]])
            self.assertTrue(all(isinstance(track, list) for track in tape.tracks()))
            self.assertEqual(tape.paces(), [(0, 4), (5, 8)])
            self.assertEqual(tape.paced(), Map(7, [(0, 4), (5, 8)]))
            self.assertEqual(len(tape), 3)

    def test_repr(self):
        self.assertEqual(repr(Tape(96, [[], [ON]])), "<tape of 2 tracks>")
        self.assertEqual(repr(Tape(96, [[]] * 6)), "<tape of 6 tracks>")
        self.assertEqual(repr(Tape()), "<tape of 1 tracks>")

    def test_alike(self):
        tape = Tape(7, [[ON], [MARK]], paces=[(5, 9)])
        self.assertTrue(tape == Tape(7, ((ON,), (MARK,)), paces=((5, 1), (5, 9))))
        self.assertFalse(tape != Tape(7, [[ON], [MARK]], paces=[(5, 9)]))
        for other in (Tape(8, [[ON], [MARK]], paces=[(5, 9)]), Tape(7, [[MARK], [ON]], paces=[(5, 9)]),
                      Tape(7, [[ON], [MARK], []], paces=[(5, 9)]), Tape(7, [[ON], [MARK]], paces=[(5, 8)]),
                      Tape(7, [[ON], [MARK]])):
            self.assertFalse(tape == other)
            self.assertTrue(tape != other)
        self.assertFalse(Tape(paces=[(0, 500000)]) == Tape())

    def test_to_nothing_else(self):
        for other in (None, 0, [], (96, [[]], []), Tape, mock.ANY, object(), Map(96)):
            self.assertIs(Tape() == other, False)

    def test_what_was_handed_in_may_be_changed(self):
        track, paces = [ON], [(5, 9)]
        tracks = [track]
        tape = Tape(96, tracks, paces=paces)
        self.assertEqual((tracks, paces), ([[ON]], [(5, 9)]))
        track.append(OFF)
        tracks.append([])
        paces.clear()
        self.assertEqual(tape, Tape(96, [[ON]], paces=[(5, 9)]))

    def test_what_was_told_may_be_changed(self):
        tape = Tape(96, [[ON], []], paces=[(5, 9)])
        tape.tracks()[0].append(OFF)
        tape.tracks().clear()
        tape.paces().clear()
        tape.paced().put(0, 1)
        tape_bytes(tape).clear()
        self.assertEqual(tape, Tape(96, [[ON], []], paces=[(5, 9)]))


class Refused(unittest.TestCase):
    def test_beats_and_paces(self):
        for beat in (0, -1, 961, FAR, -FAR):
            self.assertRaises(BadBeat, Tape, beat)
        for tick in (-1, 1000000, FAR):
            with self.assertRaises(BadTick):
                Tape(paces=[(tick, 5)])
        for pace in (0, -1, 16777216, FAR):
            with self.assertRaises(BadPace):
                Tape(paces=[(5, pace)])
        self.assertEqual(Tape(960, paces=TWENTY).paces(), TWENTY)
        self.assertEqual(Tape(1, paces=TWENTY + TWENTY).paces(), TWENTY)
        with self.assertRaises(Full):
            Tape(paces=TWENTY + [(5, 5)])

    def test_how_many_tracks(self):
        for many in (1, 2, 5, 6):
            self.assertEqual(Tape(96, [[]] * many).tracks(), [[]] * many)
        for tracks in ([], (), [[]] * 7, ((),) * 7, [[]] * 5000):
            self.assertRaises(Full, Tape, 96, tracks)

    def test_tracks_that_are_none(self):
        for track, at in [([(5, "zap")], 0), ([MARK, ON], 1), (marks(201), 200), ([ON, ON, (-1, "mark", "")], 2),
                          (((0, "on", 16, 0, 1),), 0)]:
            with self.assertRaises(BadTrack) as caught:
                Tape(96, [[ON], track, [(3,)]])
            self.assertEqual(caught.exception.at, at)
        self.assertEqual(len(Tape(96, [marks(200)] * 6)), 1200)

    def test_which_refusal_goes_first(self):
        bad = [[(3,)]]
        many = [(tick, 1) for tick in range(21)]
        for error, beat, tracks, paces in [
            (BadBeat, 0, [], [(-1, 0)]), (BadBeat, 0, bad, []), (BadTick, 1, [], [(-1, 0)]), (BadPace, 1, [], [(0, 0)]),
            (BadPace, 1, [], [(0, 0), (-1, 1)]), (BadTick, 1, bad, many + [(-1, 1)]), (Full, 1, bad, many),
            (Full, 1, bad * 7, []), (BadTrack, 1, bad * 6, []),
        ]:
            with self.assertRaises(error):
                Tape(beat, tracks, paces=paces)


class Bytes(unittest.TestCase):
    def test_by_hand(self):
        self.assertEqual(tape_bytes(Tape()), [96, 0, 1] + NOTHING)
        self.assertEqual(tape_bytes(tape=Tape(960, [[], []], paces=[(0, 1), (200, 500000)])),
                         [135, 64, 2, 0, 1, 129, 72, 158, 194, 32, 2] + NOTHING * 2)
        self.assertEqual(tape_bytes(Tape(1, [[ON, OFF], [MARK]], paces=[(7, 127), (9, 128)])),
                         [1, 2, 7, 127, 2, 129, 0, 2, 0, 145, 60, 100, 5, 60, 0, 0, 255,
                          7, 240, 3, 97, 32, 98, 0, 255])

    def test_there_and_back(self):
        chance = random.Random(91)
        for _ in range(60):
            tracks = [wide_track(chance, chance.randint(0, 20)) for _ in range(chance.randint(1, 6))]
            paces = [(chance.randint(0, 999999), chance.randint(1, 16777215)) for _ in range(chance.randint(0, 20))]
            tape = Tape(chance.randint(1, 960), tracks, paces=paces)
            row = tape_bytes(tape)
            told = read_tape(row=row)
            self.assertIsInstance(told, Tape)
            self.assertEqual(told, tape)
            self.assertTrue(row[-2:] == NOTHING)
            self.assertEqual(row[-len(written(tracks[-1])):], written(tracks[-1]))

    def test_any_written_form(self):
        chance = random.Random(92)
        for _ in range(60):
            tracks = [chance_track(chance, chance.randint(0, 12)) for _ in range(chance.randint(1, 4))]
            row = [96, 1, 5, 9, len(tracks)] + [byte for track in tracks for byte in chance_row(chance, track)]
            self.assertEqual(read_tape(row), Tape(96, tracks, paces=[(5, 9)]))

    def test_the_row_stays(self):
        row = tape_bytes(Tape(96, [[ON]]))
        copy = list(row)
        read_tape(row)
        self.assertEqual(row, copy)
        row.clear()
        self.assertEqual(read_tape(copy), Tape(96, [[ON]]))

    def test_large(self):
        tracks = [wide_track(random.Random(seed), 200, most_step=9) for seed in range(6)]
        tape = Tape(960, tracks, paces=TWENTY)
        self.assertEqual(read_tape(tape_bytes(tape)), tape)


def may_begin(beginning, low, high):
    """Whether a gap from low to high is written with bytes that begin so, told by the numbers of each length."""
    for length in range(len(beginning), 5):
        more = length - len(beginning)
        numbers = []
        for fill in (0, 127):
            row = [byte % 128 for byte in beginning] + [fill] * more
            numbers.append(sum(figure * 128 ** at for at, figure in enumerate(reversed(row))))
        least = max(numbers[0], low, 0 if length == 1 else 128 ** (length - 1))
        goes_on = [byte >= 128 for byte in beginning]
        should = [True] * (length - 1) + [False]
        if goes_on == should[:len(beginning)] and least <= min(numbers[1], high):
            return True
    return False


def plain_at(row):
    """The place of the first byte with which no tape's bytes go on, or how many there are, or None for a whole tape."""
    place = 0

    def gap(low, high):
        nonlocal place
        begin = place
        while True:
            if place == len(row) or not may_begin(row[begin:place + 1], low, high):
                raise EOFError
            place += 1
            if row[place - 1] < 128:
                return sum(byte % 128 * 128 ** at for at, byte in enumerate(reversed(row[begin:place])))

    try:
        gap(1, 960)
        many, ahead = gap(0, 20), -1
        for at in range(many):
            step = gap(0 if at == 0 else 1, 999999 - (many - 1 - at) - max(ahead, 0))
            ahead = max(ahead, 0) + step
            gap(1, 16777215)
        for _ in range(gap(1, 6)):
            feeder = Feeder()
            try:
                feeder.feed(row[place:])
            except BadBytes as error:
                place += error.at
                if not feeder.closed():
                    return place
                continue
            place += len(feeder)
            if not feeder.closed():
                return place
    except EOFError:
        return place
    return None if place == len(row) else place


class BadRows(unittest.TestCase):
    def same_place(self, row):
        self.assertEqual(refused_at(row), plain_at(row), row)

    def test_too_early(self):
        row = tape_bytes(Tape(960, [[ON, OFF], [MARK]], paces=[(7, 127), (900, 500000)]))
        for many in range(len(row)):
            self.assertEqual(refused_at(row[:many]), many)
        self.assertIsNone(refused_at(row))

    def test_behind_the_end(self):
        row = tape_bytes(Tape(96, [[ON], []]))
        for more in ([0], [255], NOTHING, row):
            self.assertEqual(refused_at(row + more), len(row))

    def test_beats(self):
        rest = [0, 1] + NOTHING
        self.assertEqual(refused_at([0] + rest), 0)
        self.assertEqual(refused_at([128, 1] + rest), 0)
        self.assertIsNone(refused_at([135, 64] + rest))
        self.assertEqual(refused_at([135, 65] + rest), 1)
        self.assertEqual(refused_at([135, 128] + rest), 1)
        self.assertEqual(refused_at([136, 0] + rest), 0)
        self.assertEqual(refused_at([129, 128, 0] + rest), 1)

    def test_how_many_paces(self):
        self.assertEqual(refused_at([96, 21]), 1)
        self.assertEqual(refused_at([96, 128]), 1)
        self.assertEqual(refused_at([96, 129]), 1)
        self.assertEqual(refused_at([96, 20]), 2)
        self.assertEqual(refused_at([96, 1, 5, 0]), 3)
        self.assertEqual(refused_at([96, 2, 5, 1, 0]), 4)
        self.assertEqual(refused_at([96, 2, 0, 1, 0]), 4)
        self.assertEqual(refused_at([96, 2, 0, 1, 1]), 5)

    def test_paces_at_their_bounds(self):
        rest = [1] + NOTHING
        most = gap_bytes(16777215)
        self.assertEqual(read_tape([96, 1, 5] + most + rest).paces(), [(5, 16777215)])
        self.assertEqual(refused_at([96, 1, 5] + gap_bytes(16777216) + rest), 5)
        self.assertEqual(refused_at([96, 1, 5, 135, 255, 255, 128]), 6)

    def test_each_pace_to_come_needs_a_tick(self):
        rest = [1] + NOTHING
        last = gap_bytes(999999)
        self.assertEqual(read_tape([96, 1] + last + [7] + rest).paces(), [(999999, 7)])
        self.assertEqual(refused_at([96, 2] + last + [7]), 4)
        self.assertEqual(refused_at([96, 2] + gap_bytes(999998) + [7, 2]), 6)
        self.assertEqual(read_tape([96, 2] + gap_bytes(999998) + [7, 1, 8] + rest).paces(),
                         [(999998, 7), (999999, 8)])
        self.assertEqual(refused_at([96, 3] + gap_bytes(999997) + [7, 2]), 6)
        self.assertEqual(refused_at([96, 20] + gap_bytes(999980)), 5)
        self.assertEqual(refused_at([96, 20] + gap_bytes(999981)), 4)
        row = [96, 20] + gap_bytes(999980) + [7] + [1, 7] * 19
        self.assertEqual(read_tape(row + rest).paces()[-1], (999999, 7))

    def test_how_many_tracks(self):
        for many in (0, 7, 128, 129, 255):
            self.assertEqual(refused_at([96, 0, many]), 2)
        for many in (1, 6):
            self.assertIsNone(refused_at([96, 0, many] + NOTHING * many))
            self.assertEqual(refused_at([96, 0, many] + NOTHING * (many - 1)), 3 + 2 * (many - 1))

    def test_tracks(self):
        self.assertEqual(refused_at([96, 0, 2] + NOTHING + [0, 60]), 6)
        self.assertEqual(refused_at([96, 0, 2, 0, 145, 60, 128]), 6)
        self.assertEqual(refused_at([96, 0, 2, 5, 255]), 4)
        # A head isn't left out behind another track's.
        self.assertEqual(refused_at([96, 0, 2, 0, 145, 60, 100, 0, 255, 0, 60]), 10)
        long = [96, 0, 1] + written(marks(200))
        self.assertIsNone(refused_at(long))
        self.assertEqual(refused_at(long[:-1] + [240]), len(long) - 1)

    def test_every_next_byte(self):
        chance = random.Random(93)
        for _ in range(12):
            tracks = [chance_track(chance, chance.randint(0, 3)) for _ in range(chance.randint(1, 3))]
            start = chance.choice([0, 5, 999990])
            paces = [(start + 3 * at, chance.choice([1, 127, 500000, 16777215])) for at in range(chance.randint(0, 3))]
            row = tape_bytes(Tape(chance.choice([1, 96, 127, 128, 960]), tracks, paces=paces))
            for many in range(len(row) + 1):
                for byte in range(256):
                    self.same_place(row[:many] + [byte])

    def test_chance_rows(self):
        chance = random.Random(94)
        for _ in range(600):
            row = tape_bytes(Tape(960, [[ON, OFF]], paces=[(7, 127), (900, 500000)]))
            for _ in range(chance.randint(1, 3)):
                row[chance.randrange(len(row))] = chance.choice([0, 1, 60, 127, 128, 129, 135, 240, 255])
            self.same_place(row)

    def test_refused_at_once_whatever_stands_behind(self):
        self.assertEqual(refused_at([0] * 5000), 0)
        self.assertEqual(refused_at([96, 0, 1] + [0] * 4997), 4)
        self.assertEqual(refused_at([]), 0)


if __name__ == "__main__":
    unittest.main()
