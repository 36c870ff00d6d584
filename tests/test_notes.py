"""Promise [11]: notes, lone ends, hung notes, notes over another one, and cured tracks."""

import random
import unittest

from reedtapes.errors import BadTick, Full
from reedtapes.events import need_track
from reedtapes.notes import cured, hung, lone, notes, over

FAR = 10 ** 29


def on(tick, key=60, channel=1, force=100):
    return (tick, "on", channel, key, force)


def off(tick, key=60, channel=1, force=64):
    return (tick, "off", channel, key, force)


def chance_track(chance, many):
    tick, track = 0, []
    for _ in range(many):
        tick += chance.choice([0, 0, 1, 5])
        word = chance.choice(["on", "on", "off", "off", "knob", "voice", "mark"])
        if word == "mark":
            track.append((tick, "mark", "on"))
        elif word == "voice":
            track.append((tick, "voice", 1, 60))
        else:
            track.append((tick, word, chance.randint(1, 2), chance.randint(60, 61), chance.randint(1, 127)))
    return track


def plain_notes(track):
    """The notes of a track: of each channel and key the beginnings, told one by one."""
    told, taken = {}, set()
    for end, event in enumerate(track):
        if event[1] == "on":
            told[end] = None
        if event[1] != "off":
            continue
        begins = [begin for begin in told if track[begin][2:4] == event[2:4] and told[begin] is None]
        if begins:
            told[min(begins)] = end
            taken.add(end)
    lone_ends = [place for place, event in enumerate(track) if event[1] == "off" and place not in taken]
    return sorted(told.items()), lone_ends


class Notes(unittest.TestCase):
    def test_nothing(self):
        others = [(0, "knob", 1, 60, 100), (0, "voice", 1, 60), (0, "mark", "on")]
        for track in ([], others):
            self.assertEqual([notes(track), lone(track), hung(track), over(track)], [[], [], [], []])

    def test_one(self):
        self.assertEqual(notes([on(0), off(5)]), [(0, 1)])
        self.assertEqual(notes([on(0), (1, "mark", ""), off(5, force=3)]), [(0, 2)])
        self.assertEqual(notes([on(5), off(5)]), [(0, 1)])

    def test_the_eldest_is_ended(self):
        track = [on(0), on(1), off(2), on(3), off(4), off(5)]
        self.assertEqual(notes(track), [(0, 2), (1, 4), (3, 5)])
        track = [on(0, force=9), on(0, force=1), off(0)]
        self.assertEqual((notes(track), hung(track)), ([(0, 2), (1, None)], [1]))

    def test_by_beginnings(self):
        track = [on(0, 60), on(0, 61), on(1, 62), off(2, 62), off(3, 61), off(4, 60)]
        self.assertEqual(notes(track=track), [(0, 5), (1, 4), (2, 3)])

    def test_channels_and_keys(self):
        track = [on(0, 60, 1), off(0, 61, 1), off(0, 60, 2), off(0, 60, 1)]
        self.assertEqual((notes(track), lone(track)), ([(0, 3)], [1, 2]))
        track = [on(0, 2, 1), off(0, 1, 2)]
        self.assertEqual((notes(track), lone(track), hung(track)), ([(0, None)], [1], [0]))

    def test_knobs_end_nothing(self):
        track = [on(0), (1, "knob", 1, 60, 64), (1, "knob", 1, 60, 0), (2, "voice", 1, 60)]
        self.assertEqual((notes(track), lone(track)), ([(0, None)], []))

    def test_lone(self):
        self.assertEqual(lone([off(0), on(1), off(2), off(3), off(3)]), [0, 3, 4])
        self.assertEqual(lone(track=[off(0), on(0)]), [0])

    def test_hung(self):
        self.assertEqual(hung([on(0), on(0), off(1), on(1)]), [1, 3])
        self.assertEqual(hung(track=[on(0, 61), on(0, 60), on(0, 60, 0)]), [0, 1, 2])

    def test_over(self):
        self.assertEqual(over([on(0), on(1), off(2), on(3), off(4), off(5), on(6)]), [1, 3])
        self.assertEqual(over(track=[on(0), on(0, 61), on(0, 60, 2), off(1), on(1)]), [])
        self.assertEqual(over([on(0), on(0), on(0), on(0)]), [1, 2, 3])

    def test_many(self):
        chance = random.Random(31)
        for _ in range(300):
            track = chance_track(chance, chance.randint(0, 25))
            told, lone_ends = plain_notes(track)
            self.assertEqual(notes(track), told)
            self.assertEqual(lone(track), lone_ends)
            self.assertEqual(hung(track), [begin for begin, end in told if end is None])
            overs = [begin for begin, _ in told
                     if any(first < begin and (end is None or end > begin) and track[first][2:4] == track[begin][2:4]
                            for first, end in told)]
            self.assertEqual(over(track), overs)

    def test_200_events(self):
        track = [on(0)] * 100 + [off(1)] * 100
        self.assertEqual(notes(track), [(place, place + 100) for place in range(100)])
        self.assertEqual(over(track), list(range(1, 100)))
        self.assertEqual(hung([on(0)] * 200), list(range(200)))
        self.assertEqual(lone([off(0)] * 200), list(range(200)))

    def test_new_lists(self):
        track = [off(0), on(0), on(0)]
        for told in (notes, lone, hung, over):
            first = told(track)
            kept = list(first)
            first.clear()
            self.assertEqual(told(track), kept)
            self.assertEqual(len(kept) > 0, True)
        self.assertEqual(track, [off(0), on(0), on(0)])


class Cured(unittest.TestCase):
    def test_a_good_one_stays(self):
        track = [(0, "mark", ""), on(0), off(5, force=9), (7, "voice", 1, 1)]
        self.assertEqual(cured(track), track)
        self.assertEqual(cured([]), [])

    def test_without_its_lone_ends(self):
        track = [off(0), on(1), off(2), off(3), off(3), (3, "mark", "off")]
        self.assertEqual(cured(track), [on(1), off(2), (3, "mark", "off")])
        # An equal `off` that ends a note stays.
        self.assertEqual(cured([off(1), on(1), off(1), off(1)]), [on(1), off(1)])

    def test_with_ends_for_its_hung_notes(self):
        track = [on(0, 61, 2, 9), on(1, 60), on(2, 60, 1, 5), off(3, 60), (9, "mark", "")]
        self.assertEqual(cured(track), track + [off(9, 61, 2), off(9, 60, 1)])
        track = [on(0, 5, 3), on(0, 7, 2), on(1, 6, 2), on(1, 6, 2)]
        self.assertEqual(cured(track), track + [off(1, 5, 3), off(1, 7, 2), off(1, 6, 2), off(1, 6, 2)])

    def test_the_last_tick_is_that_of_what_is_handed_in(self):
        self.assertEqual(cured([on(0), on(0), off(1), off(1), on(2), off(9, 61)]),
                         [on(0), on(0), off(1), off(1), on(2), off(9)])
        self.assertEqual(cured([off(9)]), [])

    def test_until(self):
        track = [on(0), off(3, 61), on(5)]
        self.assertEqual(cured(track, until=5), [on(0), on(5), off(5), off(5)])
        self.assertEqual(cured(track, until=6), [on(0), on(5), off(6), off(6)])
        self.assertEqual(cured(track=track, until=999999), [on(0), on(5), off(999999), off(999999)])
        self.assertEqual(cured(track, until=None), cured(track))
        self.assertEqual(cured([on(0)], until=0), [on(0), off(0)])
        for until in (4, 0, -1, 1000000, FAR, -FAR):
            self.assertRaises(BadTick, cured, track, until=until)

    def test_until_is_looked_at_in_any_case(self):
        for track in ([], [on(0), off(0)], [(0, "mark", "")]):
            self.assertEqual(cured(track, until=0), track)
            self.assertEqual(cured(track, until=7), track)
            self.assertRaises(BadTick, cured, track, until=-1)
            self.assertRaises(BadTick, cured, track, until=1000000)
        self.assertRaises(BadTick, cured, [off(3)], until=2)
        self.assertEqual(cured([off(3)], until=3), [])

    def test_until_by_its_name_alone(self):
        self.assertRaises(TypeError, cured, [], 5)

    def test_full(self):
        for many in (198, 199):
            track = [on(0)] + [(0, "mark", "")] * (many - 1)
            self.assertEqual(cured(track), track + [off(0)])
        self.assertRaises(Full, cured, [on(0)] + [(0, "mark", "")] * 199)
        self.assertEqual(len(cured([on(0)] * 100)), 200)
        self.assertEqual(len(cured([on(0)] * 99 + [(0, "mark", "")])), 199)
        self.assertRaises(Full, cured, [on(0)] * 100 + [(0, "mark", "")])
        self.assertRaises(Full, cured, [on(0)] * 200)

    def test_a_lone_end_makes_room(self):
        track = [off(0)] + [(0, "mark", "")] * 198 + [on(0)]
        self.assertEqual(cured(track), track[1:] + [off(0)])
        track = [off(0)] + [(0, "mark", "")] * 197 + [on(0)] * 2
        self.assertRaises(Full, cured, track)
        self.assertEqual(cured([(0, "mark", "")] * 200), [(0, "mark", "")] * 200)

    def test_bad_ticks_go_ahead_of_full(self):
        self.assertRaises(BadTick, cured, [on(5)] * 200, until=4)
        self.assertRaises(BadTick, cured, [on(5)] * 200, until=1000000)
        self.assertRaises(Full, cured, [on(5)] * 200, until=5)

    def test_many(self):
        chance = random.Random(32)
        for _ in range(200):
            track = chance_track(chance, chance.randint(0, 25))
            told = cured(track)
            self.assertIsNone(need_track(told))
            self.assertEqual((lone(told), hung(told)), ([], []))
            self.assertEqual(cured(told), told)
            self.assertEqual(len(told), len(track) - len(lone(track)) + len(hung(track)))

    def test_a_new_list_and_the_track_as_it_was(self):
        track = [on(0), off(1), off(2), on(3)]
        cured(track).clear()
        self.assertEqual(track, [on(0), off(1), off(2), on(3)])
        whole = [on(0), off(1)]
        told = cured(whole)
        self.assertIsNot(told, whole)
        told.clear()
        self.assertEqual(whole, [on(0), off(1)])


if __name__ == "__main__":
    unittest.main()
