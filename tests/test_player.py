"""Promise [13]: players that play on and leap, and how many events they walk."""

import inspect
import random
import unittest

from plain import chance_track, wide_track
from reedtapes.errors import BadNumber, BadTick
from reedtapes.player import EVERY, Player
from reedtapes.stands import Stand, stand_at

FAR = 10 ** 29
NO_TICKS = (-1, 1000000, FAR, -FAR)
TRACK = [(0, "voice", 1, 5), (0, "on", 1, 60, 9), (3, "knob", 1, 7, 5), (3, "mark", "a"), (3, "on", 1, 60, 4),
         (7, "off", 1, 60, 64), (9, "off", 1, 60, 64), (9, "knob", 1, 7, 0), (999999, "voice", 1, 0)]


def lists(stand):
    return stand.sounds(), stand.knobs(), stand.voices()


def stand_ahead_or_at(track, tick):
    return Stand() if tick < 0 else stand_at(track, tick)


def many_up_to(track, tick):
    return sum(event[0] <= tick for event in track)


def plain_way(old, new):
    """What a leap tells from one stand to another, told channel by channel and key by key."""
    offs, voices, knobs, ons = [], [], [], []
    for channel in range(16):
        for key in range(128):
            before = [note for note in old.sounds() if note[:2] == (channel, key)]
            after = [note for note in new.sounds() if note[:2] == (channel, key)]
            if before != after:
                offs.extend(("off", channel, key, 64) for _ in before)
                ons.extend(("on", *note) for note in after)
            values = [[row[2] for row in stand.knobs() if row[:2] == (channel, key)] for stand in (old, new)]
            if values[0] != values[1]:
                knobs.append(("knob", channel, key, values[1][0] if values[1] else 0))
        values = [dict(stand.voices()).get(channel, 0) for stand in (old, new)]
        if values[0] != values[1]:
            voices.append(("voice", channel, values[1]))
    return offs + voices + knobs + ons


class Made(unittest.TestCase):
    def test_usual(self):
        self.assertEqual(EVERY, 16)
        self.assertEqual(str(inspect.signature(Player)), "(track, *, every=16)")

    def test_at_first(self):
        for track in ([], TRACK):
            player = Player(track=track)
            self.assertEqual((player.tick(), player.walked()), (-1, 0))
            self.assertEqual(player.stand(), Stand())
            self.assertEqual((player.tick(), player.walked()), (-1, 0))

    def test_every(self):
        for every in (0, -1, -16, -FAR):
            with self.assertRaises(BadNumber):
                Player(TRACK, every=every)
        for every in (1, 2, 16, 200, 201, FAR):
            self.assertEqual(lists(Player(TRACK, every=every).heard(3)), ([(1, 60, 9), (1, 60, 4)], [(1, 7, 5)], [(1, 5)]))
        self.assertRaises(TypeError, Player, TRACK, 16)

    def test_the_track_may_be_changed_later(self):
        track = list(TRACK)
        player = Player(track, every=2)
        self.assertEqual(track, TRACK)
        track.clear()
        self.assertEqual(player.heard(9), stand_at(TRACK, 9))
        self.assertEqual(player.play(999999), TRACK)
        self.assertEqual(player.twin().heard(3), stand_at(TRACK, 3))


class Play(unittest.TestCase):
    def test_on_and_on(self):
        player = Player(TRACK)
        for tick, told in [(0, TRACK[:2]), (0, []), (2, []), (3, TRACK[2:5]), (3, []), (8, TRACK[5:6]), (9, TRACK[6:8]),
                           (999998, []), (999999, TRACK[8:]), (999999, [])]:
            self.assertEqual(player.play(tick=tick), told, tick)
            self.assertEqual(player.tick(), tick)
        self.assertEqual(player.walked(), 0)

    def test_all_at_once(self):
        self.assertEqual(Player(TRACK).play(999999), TRACK)
        self.assertEqual(Player([]).play(5), [])

    def test_refused(self):
        player = Player(TRACK)
        for tick in NO_TICKS:
            self.assertRaises(BadTick, player.play, tick)
        self.assertEqual(player.tick(), -1)
        player.play(5)
        for tick in (*NO_TICKS, 0, 4):
            self.assertRaises(BadTick, player.play, tick)
        self.assertEqual((player.tick(), player.walked()), (5, 0))
        self.assertEqual(player.play(9), TRACK[5:8])

    def test_behind_a_leap(self):
        player = Player(TRACK)
        player.leap(3)
        self.assertEqual(player.play(7), TRACK[5:6])
        player.leap(0)
        self.assertEqual(player.play(3), TRACK[2:5])

    def test_new_lists(self):
        player = Player(TRACK)
        player.play(3).clear()
        self.assertEqual(player.heard(3), stand_at(TRACK, 3))


class Leap(unittest.TestCase):
    def test_there_and_back(self):
        player = Player(TRACK)
        on, off = ("on", 1, 60, 9), ("off", 1, 60, 64)
        for tick, told in [
            (2, [("voice", 1, 5), on]),
            (2, []),
            (3, [off, ("knob", 1, 7, 5), on, ("on", 1, 60, 4)]),
            (8, [off, off, ("on", 1, 60, 4)]),
            (9, [off, ("knob", 1, 7, 0)]),
            (999999, [("voice", 1, 0)]),
            (7, [("voice", 1, 5), ("knob", 1, 7, 5), ("on", 1, 60, 4)]),
            (0, [off, ("knob", 1, 7, 0), on]),
            (999999, [off, ("voice", 1, 0)]),
            (999999, []),
        ]:
            self.assertEqual(player.leap(tick=tick), told, tick)
            self.assertEqual(player.tick(), tick)

    def test_from_ahead_of_all(self):
        self.assertEqual(Player(TRACK).leap(0), [("voice", 1, 5), ("on", 1, 60, 9)])
        self.assertEqual(Player([]).leap(0), [])
        self.assertEqual(Player([(5, "on", 1, 1, 1)]).leap(4), [])

    def test_the_orders(self):
        track = [(0, "on", 2, 9, 3), (0, "on", 2, 9, 1), (0, "on", 1, 80, 7), (0, "on", 1, 8, 7), (0, "voice", 9, 1),
                 (0, "voice", 2, 1), (0, "knob", 3, 1, 1), (0, "knob", 1, 9, 1), (0, "knob", 1, 3, 1)]
        things = [("voice", 2, 1), ("voice", 9, 1), ("knob", 1, 3, 1), ("knob", 1, 9, 1), ("knob", 3, 1, 1),
                  ("on", 1, 8, 7), ("on", 1, 80, 7), ("on", 2, 9, 3), ("on", 2, 9, 1)]
        self.assertEqual(Player(track).leap(0), things)
        later = [(event[0] + 5, *event[1:]) for event in track]
        player = Player(later)
        player.play(9)
        offs = [("off", 1, 8, 64), ("off", 1, 80, 64), ("off", 2, 9, 64), ("off", 2, 9, 64)]
        self.assertEqual(player.leap(0), offs + [(*thing[:-1], 0) for thing in things[:5]])

    def test_notes_that_are_alike_stay(self):
        track = [(0, "on", 1, 60, 9), (0, "on", 1, 61, 9), (5, "off", 1, 61, 64), (5, "on", 1, 61, 9),
                 (5, "on", 2, 60, 9), (6, "off", 1, 61, 3), (6, "on", 1, 61, 8)]
        player = Player(track)
        player.play(0)
        self.assertEqual(player.leap(5), [("on", 2, 60, 9)])
        self.assertEqual(player.leap(6), [("off", 1, 61, 64), ("on", 1, 61, 8)])

    def test_the_order_of_like_notes_counts(self):
        track = [(0, "on", 1, 60, 9), (0, "on", 1, 60, 8), (5, "off", 1, 60, 0), (5, "on", 1, 60, 9)]
        player = Player(track)
        player.play(0)
        off = ("off", 1, 60, 64)
        self.assertEqual(player.leap(5), [off, off, ("on", 1, 60, 8), ("on", 1, 60, 9)])

    def test_refused(self):
        player = Player(TRACK, every=4)
        player.play(5)
        for tick in NO_TICKS:
            self.assertRaises(BadTick, player.leap, tick)
            self.assertRaises(BadTick, player.heard, tick)
        self.assertEqual((player.tick(), player.walked()), (5, 0))

    def test_many(self):
        chance = random.Random(51)
        for _ in range(60):
            track = chance_track(chance, chance.randint(0, 40), channels=3)
            player = Player(track, every=chance.choice([1, 3, 16, 50]))
            for _ in range(8):
                old = stand_ahead_or_at(track, player.tick())
                tick = chance.randint(0, 30)
                told = player.leap(tick)
                new = stand_at(track, tick)
                self.assertEqual(told, plain_way(old, new))
                for thing in told:
                    old = old.after(thing)
                self.assertEqual(old, new)


class Heard(unittest.TestCase):
    def test_stand_and_heard(self):
        player = Player(TRACK, every=3)
        for tick in (0, 2, 3, 7, 8, 9, 1000, 999999):
            at = player.tick()
            self.assertIsInstance(player.heard(tick=tick), Stand)
            self.assertEqual(player.heard(tick), stand_at(TRACK, tick))
            self.assertEqual(player.tick(), at)
            player.play(tick)
            self.assertEqual(player.stand(), stand_at(TRACK, tick))
            self.assertEqual(player.stand(), player.stand())
        player.leap(3)
        self.assertEqual(player.stand(), stand_at(TRACK, 3))

    def test_what_is_told_has_nothing_to_do_with_the_player(self):
        player = Player(TRACK, every=1)
        stand = player.heard(3)
        for told in lists(stand):
            told.clear()
        stand.after(("on", 1, 1, 1))
        self.assertEqual(player.heard(3), stand_at(TRACK, 3))


class Walked(unittest.TestCase):
    def test_by_hand(self):
        player = Player(TRACK, every=4)
        for tick, walked in [(0, 2), (3, 1), (7, 2), (9, 0), (999999, 1)]:
            before = player.walked()
            player.heard(tick)
            self.assertEqual(player.walked() - before, walked, tick)
        before = player.walked()
        player.play(3)
        player.play(3)
        self.assertEqual(player.walked(), before)
        player.stand()
        self.assertEqual(player.walked(), before + 1)
        player.leap(7)
        self.assertEqual(player.walked(), before + 1 + 1 + 2)
        player.leap(7)
        self.assertEqual(player.walked(), before + 4 + 2 + 2)

    def test_ahead_of_all(self):
        player = Player(TRACK, every=100)
        player.stand()
        self.assertEqual(player.walked(), 0)
        player.leap(3)
        self.assertEqual(player.walked(), 5)

    def test_each_one_is_kept(self):
        player = Player(TRACK, every=1)
        for tick in (0, 3, 8, 999999):
            player.leap(tick)
            player.heard(9)
            player.stand()
        self.assertEqual(player.walked(), 0)

    def test_behind_as_many_as_are_kept(self):
        track = [(tick, "voice", 1, 1) for tick in range(32)]
        for tick, walked in [(14, 15), (15, 0), (16, 1), (30, 15), (31, 0), (999999, 0)]:
            player = Player(track)
            player.heard(tick)
            self.assertEqual(player.walked(), walked, tick)

    def test_many(self):
        chance = random.Random(52)
        for _ in range(100):
            track = chance_track(chance, chance.randint(0, 40))
            every = chance.choice([1, 2, 3, 5, 16, 39, 40, 41, 1000])
            player, walked = Player(track, every=every), 0
            for _ in range(20):
                asked, tick = chance.choice(["leap", "heard", "stand", "play"]), chance.randint(0, 30)
                here = many_up_to(track, player.tick()) % every
                there = many_up_to(track, tick) % every
                if asked == "stand":
                    player.stand()
                elif asked != "play" or tick >= player.tick():
                    getattr(player, asked)(tick)
                walked += {"leap": here + there, "heard": there, "stand": here, "play": 0}[asked]
                self.assertEqual(player.walked(), walked)


class Twin(unittest.TestCase):
    def test_alike(self):
        player = Player(TRACK, every=4)
        player.leap(3)
        twin = player.twin()
        self.assertIsInstance(twin, Player)
        self.assertEqual((twin.tick(), twin.walked()), (3, 1))
        self.assertEqual(twin.stand(), player.stand())
        self.assertEqual((twin.walked(), player.walked()), (2, 2))

    def test_nothing_to_do_with_one_another(self):
        player = Player(TRACK, every=4)
        twin = player.twin()
        player.leap(7)
        self.assertEqual((twin.tick(), twin.walked()), (-1, 0))
        twin.play(3)
        twin.heard(3)
        self.assertEqual((player.tick(), player.walked()), (7, 2))
        self.assertEqual((twin.tick(), twin.walked()), (3, 1))
        self.assertEqual(twin.play(7), TRACK[5:6])

    def test_two_players(self):
        track = list(TRACK)
        one, other = Player(track), Player(track)
        one.play(9)
        self.assertEqual((other.tick(), other.play(0)), (-1, TRACK[:2]))


class Large(unittest.TestCase):
    def test_200_events_with_many_leaps(self):
        chance = random.Random(53)
        for every in (1, 16, 1000):
            track = wide_track(chance, 200)
            player = Player(track, every=every)
            for _ in range(150):
                tick = chance.choice([chance.choice(track)[0], chance.randint(0, 999999)])
                player.leap(tick)
                self.assertEqual(player.stand(), stand_at(track, tick))


if __name__ == "__main__":
    unittest.main()
