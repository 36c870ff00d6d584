"""Promises [2], [3] and, of [20], `put`, `later` and `keyed`: events and tracks."""

import unittest

from reedtapes.errors import BadEvent, BadKey, BadTick, BadTrack, Full
from reedtapes.events import is_event, keyed, later, need_track, put_in

FAR = 10 ** 29


def marks(many, tick=0):
    return [(tick, "mark", "")] * many


def put(event, place, thing):
    return event[:place] + (thing,) + event[place + 1:]


class IsEvent(unittest.TestCase):
    def both(self, event, place, low, high):
        for thing in (low, low + 1, high - 1, high):
            self.assertIs(is_event(put(event, place, thing)), True, put(event, place, thing))
        for thing in (low - 1, high + 1, -FAR, FAR, "", "5", "a"):
            self.assertIs(is_event(put(event, place, thing)), False, put(event, place, thing))

    def test_on(self):
        event = (5, "on", 3, 60, 100)
        self.both(event, 0, 0, 999999)
        self.both(event, 2, 0, 15)
        self.both(event, 3, 0, 127)
        self.both(event, 4, 1, 127)

    def test_off(self):
        event = (5, "off", 3, 60, 100)
        self.both(event, 0, 0, 999999)
        self.both(event, 2, 0, 15)
        self.both(event, 3, 0, 127)
        self.both(event, 4, 0, 127)

    def test_knob(self):
        event = (5, "knob", 3, 60, 100)
        self.both(event, 0, 0, 999999)
        self.both(event, 2, 0, 15)
        self.both(event, 3, 0, 127)
        self.both(event, 4, 0, 127)

    def test_voice(self):
        event = (5, "voice", 3, 60)
        self.both(event, 0, 0, 999999)
        self.both(event, 2, 0, 15)
        self.both(event, 3, 0, 127)

    def test_mark(self):
        self.both((5, "mark", "end of it"), 0, 0, 999999)
        for text in ("", "a", "z", "0", "9", " ", "abcdefghijkl", "mnopqrstuvwx", "yz0123456789", " " * 12):
            self.assertIs(is_event((5, "mark", text)), True, text)
        for text in ("a" * 13, "a" * 20000, "A", "Z", "abC", "!", "/", ":", "`", "{", "~", "-", "_", "\n", "ab\n", 5, 0):
            self.assertIs(is_event((5, "mark", text)), False, text)

    def test_each_sign_of_a_mark(self):
        for number in range(32, 127):
            sign = chr(number)
            good = "a" <= sign <= "z" or "0" <= sign <= "9" or sign == " "
            self.assertIs(is_event((0, "mark", sign)), good, sign)

    def test_one_thing_more_or_less(self):
        for event in ((5, "on", 3, 60, 100), (5, "off", 3, 60, 100), (5, "knob", 3, 60, 100), (5, "voice", 3, 60),
                      (5, "mark", "a")):
            self.assertIs(is_event(event), True)
            for size in range(len(event)):
                self.assertIs(is_event(event[:size]), False, event[:size])
            for thing in (0, 1, "", "a"):
                self.assertIs(is_event(event + (thing,)), False)
            self.assertIs(is_event(event[1:]), False)

    def test_another_word(self):
        for word in ("", "On", "ON", "on ", " on", "of", "offs", "note", "knobs", "voices", "marks", 0, 128, -1):
            for things in ((3, 60, 100), (3, 60), ("a",), (), (3,)):
                self.assertIs(is_event((5, word) + things), False, (word, things))

    def test_nothing_and_texts(self):
        for event in ((), ("",), ("on",), (5,), ("on", 5, 3, 60, 100), ("5", "on", 3, 60, 100), ("", "mark", "")):
            self.assertIs(is_event(event), False, event)

    def test_by_name(self):
        self.assertIs(is_event(event=(0, "mark", "")), True)


class NeedTrack(unittest.TestCase):
    def refused(self, at, track):
        with self.assertRaises(BadTrack) as told:
            need_track(track)
        self.assertEqual(told.exception.at, at)

    def test_good_ones(self):
        self.assertIsNone(need_track([]))
        self.assertIsNone(need_track([(0, "on", 0, 0, 1)]))
        self.assertIsNone(need_track([(3, "on", 0, 0, 1), (3, "mark", "b"), (3, "mark", "a"), (4, "voice", 0, 0)]))
        self.assertIsNone(need_track(track=[(999999, "mark", "")]))

    def test_many(self):
        self.assertIsNone(need_track(marks(199)))
        self.assertIsNone(need_track(marks(200)))
        self.refused(200, marks(201))
        self.refused(200, marks(5000))

    def test_no_event(self):
        self.refused(0, [()])
        self.refused(0, [(0, "on", 0, 0, 0)])
        self.refused(2, marks(2) + [(0, "on", 16, 0, 1)] + marks(2))
        self.refused(199, marks(199) + [(0, "mark", "A")])

    def test_a_tick_below_the_one_ahead(self):
        self.refused(1, [(1, "mark", ""), (0, "mark", "")])
        self.refused(3, [(1, "mark", ""), (5, "mark", ""), (5, "mark", ""), (4, "mark", ""), (3, "mark", "")])
        self.refused(0, [(-1, "mark", ""), (0, "mark", "")])

    def test_the_first_place_goes(self):
        self.refused(1, [(5, "mark", ""), (4, "mark", ""), ()])
        self.refused(1, [(5, "mark", ""), ("x", "mark", ""), (4, "mark", "")])
        self.refused(3, marks(3) + [(0, "none",)] + marks(300))
        self.refused(200, marks(200) + [()])
        self.refused(200, marks(200, 5) + [(4, "mark", "")])

    def test_the_track_is_left_as_it_is(self):
        track = [(1, "mark", ""), (0, "mark", "")]
        self.refused(1, track)
        self.assertEqual(track, [(1, "mark", ""), (0, "mark", "")])


TRACK = [(2, "on", 0, 60, 1), (2, "mark", "a 1"), (5, "knob", 1, 100, 0), (9, "voice", 2, 127), (9, "off", 0, 60, 64)]


class Later(unittest.TestCase):
    def test_all_ticks(self):
        told = [(5, "on", 0, 60, 1), (5, "mark", "a 1"), (8, "knob", 1, 100, 0), (12, "voice", 2, 127),
                (12, "off", 0, 60, 64)]
        self.assertEqual(later(TRACK, 3), told)
        self.assertEqual(later(track=told, by=-3), TRACK)
        self.assertEqual(later(TRACK, 0), TRACK)
        self.assertEqual(later([], 3), [])

    def test_bounds(self):
        self.assertEqual(later(TRACK, -2)[0][0], 0)
        self.assertEqual(later(TRACK, 999990)[-1][0], 999999)
        for by in (-3, 999991, -FAR, FAR):
            self.assertRaises(BadTick, later, TRACK, by)

    def test_no_event_no_refusal(self):
        self.assertEqual(later([], FAR), [])
        self.assertEqual(later([], -FAR), [])

    def test_a_new_list(self):
        track = list(TRACK)
        told = later(track, 0)
        self.assertIsNot(told, track)
        told.clear()
        self.assertEqual(track, TRACK)
        self.assertRaises(BadTick, later, track, -3)
        self.assertEqual(track, TRACK)


class Keyed(unittest.TestCase):
    def test_all_keys(self):
        told = [(2, "on", 0, 67, 1), (2, "mark", "a 1"), (5, "knob", 1, 100, 0), (9, "voice", 2, 127),
                (9, "off", 0, 67, 64)]
        self.assertEqual(keyed(TRACK, 7), told)
        self.assertEqual(keyed(track=told, by=-7), TRACK)
        self.assertEqual(keyed(TRACK, 0), TRACK)

    def test_bounds(self):
        self.assertEqual([event[3] for event in keyed(TRACK, -60) if len(event) == 5], [0, 100, 0])
        self.assertEqual([event[3] for event in keyed(TRACK, 67) if len(event) == 5], [127, 100, 127])
        for by in (-61, 68, -FAR, FAR):
            self.assertRaises(BadKey, keyed, TRACK, by)

    def test_each_of_on_and_off_is_looked_at(self):
        self.assertRaises(BadKey, keyed, [(0, "on", 0, 127, 1)], 1)
        self.assertRaises(BadKey, keyed, [(0, "off", 0, 127, 1)], 1)
        self.assertRaises(BadKey, keyed, [(0, "on", 0, 5, 1), (0, "off", 0, 0, 1)], -1)

    def test_no_key_no_refusal(self):
        track = [(0, "knob", 1, 127, 127), (0, "voice", 1, 127), (0, "mark", "")]
        self.assertEqual(keyed(track, FAR), track)
        self.assertEqual(keyed([], -FAR), [])

    def test_a_new_list(self):
        track = [(0, "mark", "")]
        told = keyed(track, 1)
        self.assertIsNot(told, track)
        told.clear()
        self.assertEqual(track, [(0, "mark", "")])


class PutIn(unittest.TestCase):
    def test_behind_all_up_to_its_tick(self):
        for tick, place in ((0, 0), (1, 0), (2, 2), (3, 2), (5, 3), (8, 3), (9, 5), (10, 5)):
            event = (tick, "mark", "new")
            told = put_in(TRACK, event)
            self.assertEqual(told, TRACK[:place] + [event] + TRACK[place:], tick)
            self.assertIsNone(need_track(told))

    def test_into_nothing(self):
        self.assertEqual(put_in(track=[], event=(7, "voice", 0, 1)), [(7, "voice", 0, 1)])

    def test_an_equal_one_ahead(self):
        self.assertEqual(put_in([(1, "mark", "a"), (1, "mark", "b")], (1, "mark", "a")),
                         [(1, "mark", "a"), (1, "mark", "b"), (1, "mark", "a")])

    def test_no_event(self):
        for event in ((), (0, "on", 0, 0, 0), (1000000, "mark", ""), (-1, "mark", ""), ("a", "b")):
            self.assertRaises(BadEvent, put_in, TRACK, event)

    def test_full(self):
        self.assertEqual(put_in(marks(198), (0, "mark", "")), marks(199))
        self.assertEqual(put_in(marks(199), (0, "mark", "")), marks(200))
        self.assertRaises(Full, put_in, marks(200), (0, "mark", ""))
        self.assertRaises(Full, put_in, marks(201), (0, "mark", ""))

    def test_no_event_goes_ahead_of_full(self):
        self.assertRaises(BadEvent, put_in, marks(200), (0, "mark", "A"))

    def test_a_new_list(self):
        track = list(TRACK)
        told = put_in(track, (0, "mark", ""))
        self.assertEqual(track, TRACK)
        told.clear()
        self.assertEqual(put_in(track, (0, "mark", "")), [(0, "mark", "")] + TRACK)


if __name__ == "__main__":
    unittest.main()
