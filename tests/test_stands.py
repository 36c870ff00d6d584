"""Promise [12]: the notes that sound, and the knobs and voices that are not at 0."""

import random
import unittest
from unittest import mock

from reedtapes.errors import BadTick
from reedtapes.notes import notes
from reedtapes.stands import Stand, stand_at

FAR = 10 ** 29


def behind(*things):
    stand = Stand()
    for thing in things:
        stand = stand.after(thing)
    return stand


def lists(stand):
    return stand.sounds(), stand.knobs(), stand.voices()


def chance_thing(chance):
    word = chance.choice(["on", "on", "off", "off", "knob", "voice", "mark"])
    if word == "mark":
        return (word, "on 1")
    if word == "voice":
        return (word, chance.randint(0, 2), chance.choice([0, 1, 127]))
    low = 1 if word == "on" else 0
    return (word, chance.randint(0, 2), chance.randint(59, 61), chance.choice([low, 5, 127]))


def plain_lists(track):
    """What a stand tells behind a whole track, told another way."""
    sounds = [track[begin][2:] for begin, end in notes(track) if end is None]
    knobs = {event[2:4]: event[4] for event in track if event[1] == "knob"}
    voices = {event[2]: event[3] for event in track if event[1] == "voice"}
    # Sorting keeps the order of the eldest first.
    return (sorted(sounds, key=lambda note: note[:2]),
            sorted((*name, value) for name, value in knobs.items() if value),
            sorted(pair for pair in voices.items() if pair[1]))


class After(unittest.TestCase):
    def test_the_silent_one(self):
        self.assertEqual(lists(Stand()), ([], [], []))
        self.assertEqual(len(Stand()), 0)

    def test_one_of_each(self):
        self.assertEqual(lists(Stand().after(("on", 1, 60, 9))), ([(1, 60, 9)], [], []))
        self.assertEqual(lists(Stand().after(("knob", 1, 7, 9))), ([], [(1, 7, 9)], []))
        self.assertEqual(lists(Stand().after(thing=("voice", 1, 7))), ([], [], [(1, 7)]))

    def test_marks_and_lone_ends_change_nothing(self):
        stand = behind(("on", 1, 60, 9), ("knob", 1, 7, 9), ("voice", 1, 7))
        for thing in (("mark", ""), ("mark", "on"), ("off", 1, 61, 64), ("off", 2, 60, 64), ("off", 60, 1, 64)):
            self.assertEqual(lists(stand.after(thing)), lists(stand))
            self.assertEqual(stand.after(thing), stand)
        self.assertEqual(Stand().after(("off", 1, 60, 64)), Stand())

    def test_notes_by_channel_and_key_the_eldest_first(self):
        stand = behind(("on", 2, 10, 5), ("on", 1, 61, 4), ("on", 1, 60, 9), ("on", 1, 60, 3), ("on", 1, 60, 6),
                       ("on", 0, 127, 1))
        self.assertEqual(stand.sounds(), [(0, 127, 1), (1, 60, 9), (1, 60, 3), (1, 60, 6), (1, 61, 4), (2, 10, 5)])
        self.assertEqual(len(stand), 6)

    def test_the_eldest_is_ended(self):
        stand = behind(("on", 1, 60, 9), ("on", 1, 60, 3), ("on", 1, 60, 6), ("on", 1, 59, 3))
        stand = stand.after(("off", 1, 60, 0))
        self.assertEqual(stand.sounds(), [(1, 59, 3), (1, 60, 3), (1, 60, 6)])
        stand = stand.after(("on", 1, 60, 1)).after(("off", 1, 60, 6))
        self.assertEqual((stand.sounds(), len(stand)), ([(1, 59, 3), (1, 60, 6), (1, 60, 1)], 3))
        stand = stand.after(("off", 1, 60, 64)).after(("off", 1, 60, 64)).after(("off", 1, 60, 64))
        self.assertEqual((stand.sounds(), len(stand)), ([(1, 59, 3)], 1))

    def test_knobs_are_rising(self):
        stand = behind(("knob", 2, 1, 1), ("knob", 1, 9, 5), ("knob", 1, 3, 127), ("knob", 0, 0, 1))
        self.assertEqual(stand.knobs(), [(0, 0, 1), (1, 3, 127), (1, 9, 5), (2, 1, 1)])
        self.assertEqual(stand.after(("knob", 1, 9, 4)).knobs(), [(0, 0, 1), (1, 3, 127), (1, 9, 4), (2, 1, 1)])

    def test_voices_are_rising(self):
        stand = behind(("voice", 2, 1), ("voice", 15, 127), ("voice", 0, 9))
        self.assertEqual(stand.voices(), [(0, 9), (2, 1), (15, 127)])
        self.assertEqual(stand.after(("voice", 2, 5)).voices(), [(0, 9), (2, 5), (15, 127)])

    def test_set_back_to_nought(self):
        stand = behind(("knob", 1, 9, 5), ("knob", 9, 1, 5), ("voice", 1, 5), ("voice", 2, 5))
        self.assertEqual(stand.after(("knob", 1, 9, 0)).knobs(), [(9, 1, 5)])
        self.assertEqual(stand.after(("voice", 1, 0)).voices(), [(2, 5)])
        self.assertEqual(lists(behind(("knob", 1, 9, 0), ("voice", 3, 0))), ([], [], []))
        stand = stand.after(("knob", 1, 9, 0)).after(("knob", 1, 9, 7))
        self.assertEqual(stand.knobs(), [(1, 9, 7), (9, 1, 5)])

    def test_its_own_stays_as_it_was(self):
        stand = behind(("on", 1, 60, 9), ("knob", 1, 7, 9), ("voice", 1, 7))
        before = lists(stand)
        for thing in (("on", 1, 60, 4), ("off", 1, 60, 64), ("knob", 1, 7, 0), ("knob", 1, 7, 2), ("voice", 1, 0),
                      ("voice", 2, 2), ("mark", "")):
            told = stand.after(thing)
            self.assertIsNot(told, stand)
            self.assertIsInstance(told, Stand)
            self.assertEqual((lists(stand), len(stand)), (before, 1))

    def test_new_lists(self):
        stand = behind(("on", 1, 60, 9), ("knob", 1, 7, 9), ("voice", 1, 7))
        other = stand.after(("mark", ""))
        for told in lists(stand) + lists(other):
            told.clear()
        self.assertEqual(lists(stand), ([(1, 60, 9)], [(1, 7, 9)], [(1, 7)]))
        self.assertEqual(lists(other), lists(stand))

    def test_many(self):
        chance = random.Random(41)
        for _ in range(200):
            track, stand = [], Stand()
            for tick in range(chance.randint(0, 30)):
                thing = chance_thing(chance)
                track.append((tick, *thing))
                stand = stand.after(thing)
                self.assertEqual(lists(stand), plain_lists(track))
                self.assertEqual(len(stand), len(stand.sounds()))
                self.assertEqual(stand_at(track, tick), stand)


class Alike(unittest.TestCase):
    def test_however_they_came_about(self):
        pairs = [
            (Stand(), Stand()),
            (behind(("mark", "a"), ("off", 1, 1, 1)), Stand()),
            (behind(("on", 1, 60, 9), ("off", 1, 60, 64)), Stand()),
            (behind(("knob", 1, 60, 9), ("knob", 1, 60, 0), ("voice", 1, 1), ("voice", 1, 0)), Stand()),
            (behind(("on", 1, 60, 9), ("on", 2, 60, 8)), behind(("on", 2, 60, 8), ("on", 1, 60, 9))),
            (behind(("knob", 1, 1, 9), ("knob", 2, 2, 8)), behind(("knob", 2, 2, 8), ("knob", 1, 1, 9))),
            (behind(("voice", 1, 1), ("voice", 2, 2)), behind(("voice", 2, 2), ("voice", 1, 7), ("voice", 1, 1))),
        ]
        for one, other in pairs:
            self.assertTrue(one == other)
            self.assertTrue(other == one)
            self.assertFalse(one != other)

    def test_unlike(self):
        stand = behind(("on", 1, 60, 9), ("on", 1, 60, 8), ("knob", 1, 7, 9), ("voice", 1, 7))
        others = [
            Stand(),
            stand.after(("on", 1, 60, 8)),
            stand.after(("off", 1, 60, 64)),
            stand.after(("knob", 1, 7, 0)),
            stand.after(("voice", 1, 0)),
            behind(("on", 1, 60, 8), ("on", 1, 60, 9), ("knob", 1, 7, 9), ("voice", 1, 7)),
        ]
        for other in others:
            self.assertFalse(stand == other)
            self.assertFalse(other == stand)
            self.assertTrue(stand != other)

    def test_to_nothing_else(self):
        for other in (None, 0, [], ([], [], []), Stand, "", mock.ANY, object()):
            self.assertIs(Stand() == other, False)


class At(unittest.TestCase):
    TRACK = [(2, "on", 1, 60, 9), (2, "knob", 1, 7, 5), (5, "off", 1, 60, 64), (5, "voice", 1, 3), (5, "voice", 2, 3),
             (9, "mark", ""), (9, "on", 1, 60, 4), (999999, "voice", 1, 0)]

    def test_at_between_ahead_and_behind(self):
        silent = ([], [], [])
        begun = ([(1, 60, 9)], [(1, 7, 5)], [])
        ended = ([], [(1, 7, 5)], [(1, 3), (2, 3)])
        again = ([(1, 60, 4)], [(1, 7, 5)], [(1, 3), (2, 3)])
        last = ([(1, 60, 4)], [(1, 7, 5)], [(2, 3)])
        for tick, told in [(0, silent), (1, silent), (2, begun), (3, begun), (4, begun), (5, ended), (8, ended),
                           (9, again), (10, again), (999998, again), (999999, last)]:
            stand = stand_at(self.TRACK, tick)
            self.assertIsInstance(stand, Stand)
            self.assertEqual(lists(stand), told, tick)

    def test_no_event(self):
        for tick in (0, 5, 999999):
            self.assertEqual(stand_at(track=[], tick=tick), Stand())

    def test_no_tick(self):
        for tick in (-1, 1000000, FAR, -FAR):
            self.assertRaises(BadTick, stand_at, self.TRACK, tick)
            self.assertRaises(BadTick, stand_at, [], tick)

    def test_the_track_is_left_as_it_is(self):
        track = list(self.TRACK)
        stand = stand_at(track, 9)
        self.assertEqual(track, self.TRACK)
        track.clear()
        self.assertEqual(stand, stand_at(self.TRACK, 9))

    def test_200_events(self):
        track = [(0, "on", place % 16, 60, 1 + place % 100) for place in range(200)]
        self.assertEqual(len(stand_at(track, 0)), 200)
        track = [(0, "knob", place % 16, place // 16, 1) for place in range(200)]
        self.assertEqual(len(stand_at(track, 0).knobs()), 200)


if __name__ == "__main__":
    unittest.main()
