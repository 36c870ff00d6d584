"""Promise [14]: the first moment at which two tracks don't sound alike."""

import random
import unittest
from fractions import Fraction

from plain import chance_track, wide_track
from reedtapes.heads import thrifty
from reedtapes.maps import Map
from reedtapes.sound import unlike
from reedtapes.stands import Stand, stand_at

USUAL = Map(96)


def on(tick, key=60, force=100):
    return (tick, "on", 1, key, force)


def off(tick, key=60):
    return (tick, "off", 1, key, 64)


def plain_unlike(track, own, other, theirs):
    """The same, with each stand told from the beginning on."""
    def stand(events, led, moment):
        told = Stand()
        for event in events:
            if Fraction(*led.moment(event[0])) <= moment:
                told = told.after(event[1:])
        return told

    moments = [Fraction(*own.moment(event[0])) for event in track]
    moments += [Fraction(*theirs.moment(event[0])) for event in other]
    for moment in sorted(set(moments)):
        here, there = stand(track, own, moment), stand(other, theirs, moment)
        if here != there:
            return (moment.numerator, moment.denominator), here, there
    return None


class Alike(unittest.TestCase):
    def test_nothing_and_nothing(self):
        self.assertIsNone(unlike([], USUAL, [], Map(7, [(0, 1)])))
        self.assertIsNone(unlike(track=[], own=USUAL, other=[(5, "mark", "a"), off(6)], theirs=USUAL))

    def test_the_same(self):
        track = [on(0), off(5), (5, "knob", 1, 2, 3)]
        self.assertIsNone(unlike(track, USUAL, track, USUAL))
        self.assertIsNone(unlike(track, USUAL, list(track), Map(96)))

    def test_what_cancels_within_a_moment(self):
        self.assertIsNone(unlike([on(5), off(5), (6, "voice", 1, 4), (6, "voice", 1, 0)], USUAL, [], USUAL))
        self.assertIsNone(unlike([], USUAL, [(6, "knob", 1, 4, 4), (6, "knob", 1, 4, 0)], USUAL))

    def test_other_orders_within_a_tick(self):
        one = [on(5), on(5, 61), (5, "voice", 1, 3), (5, "mark", "")]
        self.assertIsNone(unlike(one, USUAL, one[::-1], USUAL))

    def test_maps_that_lead_to_the_same_moments(self):
        one, other = [on(0), off(96), on(192)], [on(0), off(48), on(96)]
        self.assertIsNone(unlike(one, Map(96), other, Map(48)))
        self.assertIsNone(unlike(one, Map(96, [(0, 100)]), other, Map(96, [(0, 200)])))
        self.assertIsNone(unlike(one, Map(960, [(96, 70)]), [on(0), off(1), on(2)], Map(10, [(1, 70)])))
        self.assertIsNone(unlike([on(1)], Map(7, [(0, 7)]), [on(3)], Map(9, [(0, 3)])))

    def test_the_force_of_an_end_is_not_heard(self):
        self.assertIsNone(unlike([on(0), (5, "off", 1, 60, 0)], USUAL, [on(0), (5, "off", 1, 60, 127)], USUAL))

    def test_thrifty_tracks(self):
        chance = random.Random(61)
        for _ in range(60):
            track = chance_track(chance, chance.randint(0, 25), channels=3)
            self.assertIsNone(unlike(track, USUAL, thrifty(track), USUAL))


class Unlike(unittest.TestCase):
    def test_both_stands(self):
        moment, here, there = unlike([on(1)], USUAL, [(2, "voice", 1, 1)], USUAL)
        self.assertEqual(moment, (15625, 3))
        self.assertEqual((here, there), (Stand().after(("on", 1, 60, 100)), Stand()))
        moment, here, there = unlike([(2, "voice", 1, 1)], USUAL, [on(1)], USUAL)
        self.assertEqual(moment, (15625, 3))
        self.assertEqual((here, there), (Stand(), Stand().after(("on", 1, 60, 100))))

    def test_at_nought(self):
        told = unlike([on(0)], USUAL, [], USUAL)
        self.assertEqual(told, ((0, 1), Stand().after(("on", 1, 60, 100)), Stand()))
        self.assertIsInstance(told, tuple)

    def test_each_kind_of_thing(self):
        begin = [on(0), (0, "knob", 1, 2, 3), (0, "voice", 1, 2)]
        for more in (on(96), off(96), on(96, 61), (96, "knob", 1, 2, 0), (96, "knob", 1, 3, 3), (96, "voice", 1, 0)):
            for one, other in ((begin + [more], begin), (begin, begin + [more])):
                moment, here, there = unlike(one, USUAL, other, USUAL)
                self.assertEqual((moment, here, there), ((500000, 1), stand_at(one, 96), stand_at(other, 96)))

    def test_all_events_of_the_moment_count(self):
        one = [on(5), on(5, 61), on(5, 62)]
        moment, here, there = unlike(one, USUAL, one[:2], USUAL)
        self.assertEqual((moment, here, there), (USUAL.moment(5), stand_at(one, 5), stand_at(one[:2], 5)))

    def test_the_forces_of_notes_and_their_order(self):
        self.assertEqual(unlike([on(0, force=9)], USUAL, [on(0, force=8)], USUAL)[0], (0, 1))
        one = [on(0, force=9), on(0, force=8)]
        self.assertEqual(unlike(one, USUAL, one[::-1], USUAL)[0], (0, 1))

    def test_moments_of_either_map(self):
        track = [on(0), off(96)]
        self.assertEqual(unlike(track, USUAL, track, Map(97))[0], (48000000, 97))
        self.assertEqual(unlike(track, Map(97), track, USUAL)[0], (48000000, 97))
        self.assertEqual(unlike(track, USUAL, track, Map(95))[0], (500000, 1))
        self.assertEqual(unlike(track, USUAL, track, Map(96, [(95, 1)]))[0],
                         Map(96, [(95, 1)]).moment(96))

    def test_one_much_longer(self):
        track = [(tick, "mark", "") for tick in range(199)] + [on(999999)]
        self.assertEqual(unlike(track, USUAL, [], USUAL), (USUAL.moment(999999), stand_at(track, 999999), Stand()))
        self.assertEqual(unlike([], USUAL, track, USUAL), (USUAL.moment(999999), Stand(), stand_at(track, 999999)))
        self.assertIsNone(unlike(track[:-1], USUAL, [], USUAL))

    def test_it_is_the_first_one(self):
        one = [on(0), off(5), on(7), off(9)]
        other = [on(0), off(6), on(7), off(9)]
        self.assertEqual(unlike(one, USUAL, other, USUAL), (USUAL.moment(5), Stand(), stand_at(one, 0)))

    def test_nothing_is_changed(self):
        one, other, own, theirs = [on(0), off(5)], [on(0)], Map(96, [(1, 2)]), Map(7)
        told = unlike(one, own, other, theirs)
        self.assertEqual(told, unlike(one, own, other, theirs))
        self.assertEqual((one, other, own, theirs), ([on(0), off(5)], [on(0)], Map(96, [(1, 2)]), Map(7)))

    def test_many(self):
        chance = random.Random(62)
        found = {True: 0, False: 0}
        for _ in range(300):
            track = chance_track(chance, chance.randint(0, 8))
            other = [event for event in track if chance.random() < 0.95]
            own = Map(chance.choice([1, 2, 7]), [(chance.randint(0, 5), chance.randint(1, 9))])
            scale = chance.choice([1, 1, 1, 2])
            theirs = Map(own.beat() * scale, own.paces()[:chance.choice([0, 1, 1])])
            if scale == 2 and chance.random() < 0.7:
                other = [(event[0] * 2, *event[1:]) for event in other]
                theirs = Map(own.beat() * 2, [(tick * 2, pace) for tick, pace in own.paces()])
            told = unlike(track, own, other, theirs)
            self.assertEqual(told, plain_unlike(track, own, other, theirs))
            found[told is None] += 1
        self.assertGreater(min(found.values()), 40)

    def test_large(self):
        chance = random.Random(63)
        paces = [(tick * 300, chance.randint(1, 16777215)) for tick in range(20)]
        track = wide_track(chance, 200)
        own = Map(480, paces)
        other = [(event[0] * 2, *event[1:]) for event in track]
        theirs = Map(960, [(tick * 2, pace) for tick, pace in paces])
        self.assertIsNone(unlike(track, own, other, theirs))
        other[-1] = (other[-1][0] + 1, "on", 9, 9, 9)
        self.assertEqual(unlike(track, own, other, theirs), plain_unlike(track, own, other, theirs))


if __name__ == "__main__":
    unittest.main()
