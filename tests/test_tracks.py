"""Promises [15], [16] and [18]: tracks merged, parted, cut, glued, and led to another beat."""

import random
import unittest

from plain import chance_track, wide_track
from reedtapes.errors import BadBeat, BadTick, Full, NoTrack, NotWhole
from reedtapes.events import need_track
from reedtapes.maps import Map
from reedtapes.sound import unlike
from reedtapes.stands import stand_at
from reedtapes.tracks import apart, at_beat, cut, glued, least_beat, merged, parted

FAR = 10 ** 29
USUAL = Map(96)


def on(tick, key=60, force=100, channel=1):
    return (tick, "on", channel, key, force)


def off(tick, key=60, force=64, channel=1):
    return (tick, "off", channel, key, force)


def mark(tick, text=""):
    return (tick, "mark", text)


def marks(many, tick=0):
    return [mark(tick)] * many


class Merged(unittest.TestCase):
    def test_nothing(self):
        self.assertEqual(merged([]), [])
        self.assertEqual(merged(tracks=[[], []]), [])

    def test_by_ticks_then_tracks(self):
        one = [mark(0, "a"), mark(5, "b"), mark(5, "c")]
        two = [mark(5, "d"), mark(9, "e")]
        three = [mark(0, "f"), mark(5, "g"), mark(7, "h")]
        self.assertEqual(merged([one, two, three]), [
            (0, one[0]), (2, three[0]), (0, one[1]), (0, one[2]), (1, two[0]), (2, three[1]), (2, three[2]),
            (1, two[1])])

    def test_of_one_track_in_order(self):
        track = [mark(5, "z"), on(5), mark(5, "a"), off(5)]
        self.assertEqual(merged([[], track]), [(1, event) for event in track])

    def test_what_is_handed_in_stays(self):
        tracks = [[mark(5)], [mark(0)]]
        merged(tracks).clear()
        self.assertEqual(tracks, [[mark(5)], [mark(0)]])

    def test_many(self):
        chance = random.Random(71)
        for _ in range(50):
            tracks = [chance_track(chance, chance.randint(0, 9)) for _ in range(chance.randint(0, 6))]
            rows = merged(tracks)
            places = [(event[0], number) for number, event in rows]
            self.assertEqual(places, sorted(places))
            self.assertEqual([[event for number, event in rows if number == which] for which in range(len(tracks))],
                             tracks)
            self.assertEqual(parted(rows, len(tracks)), tracks)

    def test_large(self):
        tracks = [wide_track(random.Random(seed), 200) for seed in range(6)]
        rows = merged(tracks)
        self.assertEqual((len(rows), parted(rows, 6)), (1200, tracks))


class Parted(unittest.TestCase):
    def test_in_the_order_of_the_rows(self):
        rows = [(2, mark(9)), (0, mark(5)), (2, mark(3)), (2, mark(4)), (0, mark(5, "a"))]
        self.assertEqual(parted(rows, 4), [[mark(5), mark(5, "a")], [], [mark(9), mark(3), mark(4)], []])

    def test_nothing(self):
        self.assertEqual(parted([], 0), [])
        self.assertEqual(parted(rows=[], many=3), [[], [], []])

    def test_no_track(self):
        for number, many in [(-1, 2), (2, 2), (3, 2), (0, 0), (FAR, 2), (-FAR, 2), (-2, 2)]:
            self.assertRaises(NoTrack, parted, [(number, mark(0))], many)
        self.assertRaises(NoTrack, parted, [(0, mark(0)), (1, mark(0)), (2, mark(0))], 2)

    def test_new_lists(self):
        rows = [(1, mark(5))]
        told = parted(rows, 3)
        told[0].append(mark(7))
        told[1].clear()
        self.assertEqual((rows, told[2], parted(rows, 2)), ([(1, mark(5))], [], [[], [mark(5)]]))


class Apart(unittest.TestCase):
    TRACK = [on(0), mark(0, "1"), on(0, channel=2), (3, "knob", 1, 2, 2), (3, "voice", 2, 1), (4, "voice", 1, 2), off(5),
             off(5, channel=2)]

    def test_channels_that_are_there(self):
        track = self.TRACK
        told = apart(track, 1)
        self.assertEqual(told, ([track[0], track[3], track[5], track[6]], [track[1], track[2], track[4], track[7]]))
        self.assertIsInstance(told, tuple)
        self.assertEqual(apart(track=track, channel=2),
                         ([track[2], track[4], track[7]], [track[0], track[1], track[3], track[5], track[6]]))

    def test_channels_that_are_not(self):
        for channel in (0, 3, 15, 16, -1, FAR):
            its, others = apart(self.TRACK, channel)
            self.assertEqual((its, others), ([], self.TRACK))
            self.assertIsNot(others, self.TRACK)
        self.assertEqual(apart([], 1), ([], []))

    def test_what_is_handed_in_stays(self):
        track = list(self.TRACK)
        for told in apart(track, 1):
            told.clear()
        self.assertEqual(track, self.TRACK)


class Cut(unittest.TestCase):
    TRACK = [(0, "voice", 2, 7), (0, "voice", 1, 5), (0, "knob", 3, 1, 9), (0, "knob", 1, 8, 9), on(2, 70, 3),
             on(2, 60, 8), on(2, 60, 6), (5, "knob", 3, 1, 0), off(5, 60), mark(5, "a"), on(9, 50, 1, 0), off(12, 60)]

    def test_between(self):
        begun = [(0, "voice", 1, 5), (0, "voice", 2, 7), (0, "knob", 1, 8, 9), (0, "knob", 3, 1, 9), on(0, 60, 8),
                 on(0, 60, 6), on(0, 70, 3)]
        told = cut(track=self.TRACK, tick=4)
        self.assertIsInstance(told, tuple)
        self.assertEqual(told[0], self.TRACK[:7] + [off(4, 60), off(4, 60), off(4, 70)])
        self.assertEqual(told[1], begun + [(1, "knob", 3, 1, 0), off(1, 60), mark(1, "a"), on(5, 50, 1, 0), off(8, 60)])

    def test_at_events(self):
        first, second = cut(self.TRACK, 5)
        self.assertEqual(first, self.TRACK[:7] + [off(5, 60), off(5, 60), off(5, 70)])
        self.assertEqual(second[7:], [(0, "knob", 3, 1, 0), off(0, 60), mark(0, "a"), on(4, 50, 1, 0), off(7, 60)])
        first, second = cut(self.TRACK, 9)
        self.assertEqual(first, self.TRACK[:10] + [off(9, 60), off(9, 70)])
        self.assertEqual(second, [(0, "voice", 1, 5), (0, "voice", 2, 7), (0, "knob", 1, 8, 9), on(0, 60, 6),
                                  on(0, 70, 3), on(0, 50, 1, 0), off(3, 60)])

    def test_ahead_of_all(self):
        self.assertEqual(cut(self.TRACK, 0), ([], self.TRACK))
        later = [(event[0] + 4, *event[1:]) for event in self.TRACK]
        self.assertEqual(cut(later, 4), ([], self.TRACK))
        self.assertEqual(cut(later, 3), ([], [(event[0] + 1, *event[1:]) for event in self.TRACK]))

    def test_behind_all(self):
        for tick in (13, 999999):
            self.assertEqual(cut(self.TRACK, tick), (
                self.TRACK + [off(tick, 50, channel=0), off(tick, 70)],
                [(0, "voice", 1, 5), (0, "voice", 2, 7), (0, "knob", 1, 8, 9), on(0, 50, 1, 0), on(0, 70, 3)]))
        self.assertEqual(cut([on(1), off(2)], 3), ([on(1), off(2)], []))
        self.assertEqual(cut([], 5), ([], []))

    def test_no_tick(self):
        for tick in (-1, 1000000, FAR, -FAR):
            self.assertRaises(BadTick, cut, self.TRACK, tick)
            self.assertRaises(BadTick, cut, [], tick)
            self.assertRaises(BadTick, cut, [on(0)] * 200, tick)

    def test_first_pieces_at_their_bound(self):
        track = [on(0, key) for key in range(100)] + marks(1, 5)
        self.assertEqual(len(cut(track, 5)[0]), 200)
        self.assertEqual(len(cut(marks(1) + track[:99], 5)[0]), 199)
        self.assertRaises(Full, cut, marks(1) + track[:100], 5)
        self.assertEqual(len(cut(marks(1) + track[:100], 0)[1]), 101)

    def test_second_pieces_at_their_bound(self):
        set_twice = [on(0), (0, "voice", 1, 1), (0, "voice", 1, 0), (0, "knob", 1, 1, 1), (0, "knob", 1, 1, 5)]
        self.assertEqual([len(piece) for piece in cut(set_twice + marks(195, 9), 9)], [6, 197])
        begun = [on(0, key) for key in range(60)] + [(0, "voice", channel, 1) for channel in range(3)]
        self.assertEqual([len(piece) for piece in cut(begun + marks(137, 9), 9)], [123, 200])
        self.assertEqual(cut(marks(200, 9), 9), ([], marks(200, 0)))
        self.assertRaises(Full, cut, marks(201, 9), 9)

    def test_a_second_piece_is_never_too_long(self):
        # Each thing at its beginning stands for an event ahead of the tick.
        chance = random.Random(72)
        for _ in range(30):
            track = wide_track(chance, 200)
            tick = chance.choice(track)[0]
            ahead = [event for event in track if event[0] < tick]
            stand = stand_at(ahead, 999999)
            if len(ahead) + len(stand) > 200:
                self.assertRaises(Full, cut, track, tick)
            else:
                first, second = cut(track, tick)
                self.assertEqual(len(first), len(ahead) + len(stand))
                self.assertLessEqual(len(second), 200)

    def test_glued_again_it_sounds_as_the_whole(self):
        chance = random.Random(73)
        for _ in range(200):
            track = chance_track(chance, chance.randint(0, 25), channels=3)
            tick = chance.randint(0, 20)
            first, second = cut(track, tick)
            need_track(first)
            need_track(second)
            whole = glued(first, second, tick)
            self.assertIsNone(unlike(track, USUAL, whole, USUAL))
            self.assertEqual(stand_at(first, 999999).sounds(), [])

    def test_what_is_handed_in_stays(self):
        track = list(self.TRACK)
        for piece in cut(track, 5) + cut(track, 0) + cut(track, 99):
            piece.clear()
        self.assertEqual(track, self.TRACK)


class Glued(unittest.TestCase):
    def test_at_and_behind_the_last_tick(self):
        one, other = [mark(2), on(5)], [off(0), mark(3)]
        self.assertEqual(glued(one, other, 5), [mark(2), on(5), off(5), mark(8)])
        self.assertEqual(glued(track=one, other=other, tick=7), [mark(2), on(5), off(7), mark(10)])
        self.assertEqual(glued(one, [], 999999), one)

    def test_of_no_events(self):
        self.assertEqual(glued([], [mark(3)], 0), [mark(3)])
        self.assertEqual(glued([], [mark(3)], 4), [mark(7)])
        self.assertEqual(glued([], [], 0), [])

    def test_no_tick(self):
        one = [mark(2), on(5)]
        for tick in (4, 0, -1, 1000000, FAR, -FAR):
            self.assertRaises(BadTick, glued, one, [], tick)
            self.assertRaises(BadTick, glued, one, [off(0)], tick)
        for tick in (-1, 1000000, FAR, -FAR):
            self.assertRaises(BadTick, glued, [], [], tick)
        self.assertRaises(BadTick, glued, [], [mark(5)], -1)

    def test_an_event_beyond(self):
        self.assertEqual(glued([], [mark(0), mark(9)], 999990), [mark(999990), mark(999999)])
        self.assertRaises(BadTick, glued, [], [mark(0), mark(9)], 999991)
        self.assertRaises(BadTick, glued, [mark(5)], [mark(999999)], 5)

    def test_full(self):
        self.assertEqual(len(glued(marks(100), marks(99), 0)), 199)
        self.assertEqual(len(glued(marks(100), marks(100), 0)), 200)
        self.assertRaises(Full, glued, marks(101), marks(100), 0)
        self.assertRaises(Full, glued, marks(200), marks(1), 0)
        self.assertEqual(len(glued(marks(200), [], 0)), 200)

    def test_bad_tick_goes_first(self):
        self.assertRaises(BadTick, glued, marks(200, 5), marks(1), 4)
        self.assertRaises(BadTick, glued, marks(200, 5), marks(1), 1000000)
        self.assertRaises(BadTick, glued, marks(200, 5), marks(1, 999999), 5)

    def test_what_is_handed_in_stays(self):
        one, other = [mark(2)], [mark(3)]
        glued(one, other, 5).clear()
        glued(one, [], 5).clear()
        self.assertEqual((one, other), ([mark(2)], [mark(3)]))


class AtBeat(unittest.TestCase):
    def test_up_and_down(self):
        track = [on(0), off(24), mark(96), mark(96, "a")]
        up = [on(0), off(48), mark(192), mark(192, "a")]
        self.assertEqual(at_beat(track, 96, 192), up)
        self.assertEqual(at_beat(track=up, beat=192, other=96), track)
        self.assertEqual(at_beat(track, 96, 96), track)
        self.assertEqual(at_beat(track, 96, 4), [on(0), off(1), mark(4), mark(4, "a")])
        self.assertEqual(at_beat([], 96, 1), [])
        self.assertEqual(at_beat([mark(0)], 7, 5), [mark(0)])

    def test_no_beat(self):
        for beat in (0, -1, 961, FAR, -FAR):
            self.assertRaises(BadBeat, at_beat, [mark(1)], beat, 96)
            self.assertRaises(BadBeat, at_beat, [mark(1)], 96, beat)
            self.assertRaises(BadBeat, at_beat, [], beat, beat)
        self.assertEqual(at_beat([mark(1)], 1, 960), [mark(960)])

    def test_not_whole(self):
        track = [mark(0), mark(4), mark(6), mark(7), mark(8), mark(9)]
        for other, at in [(1, 2), (2, 3), (3, 2), (4, None), (6, 3), (8, None), (7, 2), (5, 2)]:
            if at is None:
                self.assertEqual(at_beat(track, 4, other), [mark(event[0] * other // 4) for event in track])
                continue
            with self.assertRaises(NotWhole) as caught:
                at_beat(track, 4, other)
            self.assertEqual(caught.exception.at, at)

    def test_beyond(self):
        self.assertEqual(at_beat([mark(333333)], 1, 3), [mark(999999)])
        self.assertRaises(BadTick, at_beat, [mark(333334)], 1, 3)
        self.assertRaises(BadTick, at_beat, [mark(0), mark(999999)], 1, 2)

    def test_which_refusal_goes_first(self):
        self.assertRaises(BadBeat, at_beat, [mark(999999)], 2, 961)
        with self.assertRaises(NotWhole) as caught:
            at_beat([mark(999998), mark(999999)], 2, 3)
        self.assertEqual(caught.exception.at, 1)

    def test_moments_are_the_same(self):
        chance = random.Random(74)
        for _ in range(60):
            track = chance_track(chance, 12)
            beat, times = chance.randint(1, 30), chance.randint(1, 30)
            told = at_beat(track, beat, beat * times)
            for event, new in zip(track, told):
                self.assertEqual(Map(beat).moment(event[0]), Map(beat * times).moment(new[0]))
            self.assertEqual(at_beat(told, beat * times, beat), track)


class LeastBeat(unittest.TestCase):
    def test_by_hand(self):
        self.assertEqual(least_beat([[mark(0), mark(24)], [mark(96), mark(48)]], 96), 4)
        self.assertEqual(least_beat(tracks=[[mark(1)]], beat=96), 96)
        self.assertEqual(least_beat([[mark(96)], [mark(36)]], 96), 8)
        self.assertEqual(least_beat([[mark(192)]], 96), 1)

    def test_of_nothing(self):
        for tracks in ([], [[]], [[], []], [[mark(0)], []]):
            for beat in (1, 96, 960):
                self.assertEqual(least_beat(tracks, beat), 1)

    def test_it_is_the_least(self):
        chance = random.Random(75)
        for _ in range(150):
            tracks = [[mark(chance.randint(0, 20) * chance.choice([1, 6, 12])) for _ in range(chance.randint(0, 3))]
                      for _ in range(chance.randint(0, 3))]
            beat = chance.choice([1, 2, 12, 36, 72, 96])
            told = least_beat(tracks, beat)
            whole = [other for other in range(1, beat + 1)
                     if all(event[0] * other % beat == 0 for track in tracks for event in track)]
            self.assertEqual(told, whole[0])
            for track in tracks:
                at_beat(track, beat, told)


class Stays(unittest.TestCase):
    def test_nothing_that_is_handed_in_is_changed(self):
        one, other = [on(0), off(4)], [mark(4)]
        rows = [(0, one[0])]
        for _ in range(2):
            merged([one, other])
            parted(rows, 1)
            apart(one, 1)
            cut(one, 2)
            glued(one, other, 8)
            at_beat(one, 4, 8).clear()
            least_beat([one, other], 8)
        self.assertEqual((one, other, rows), ([on(0), off(4)], [mark(4)], [(0, one[0])]))


if __name__ == "__main__":
    unittest.main()
