"""Promise [9]: shares, and maps that lead ticks to moments through changes of pace."""

import random
import unittest
from fractions import Fraction
from unittest import mock

from reedtapes.errors import BadBeat, BadMoment, BadPace, BadTick, Full, NoPace
from reedtapes.maps import USUAL, Map, share

FAR = 10 ** 29
TWENTY = [(tick * 10, 1000 + tick) for tick in range(20)]


def plain_moment(beat, paces, tick):
    """The moment of a tick, told tick by tick."""
    pace, told, table = 500000, Fraction(0), dict(paces)
    for at in range(tick):
        pace = table.get(at, pace)
        told += Fraction(pace, beat)
    return (told.numerator, told.denominator)


def chance_map(chance, most_tick=40):
    paces = [(chance.randint(0, most_tick), chance.randint(1, chance.choice([5, 1000, 16777215])))
             for _ in range(chance.randint(0, 6))]
    return Map(chance.choice([1, 2, 7, 96, 960, chance.randint(1, 960)]), paces), paces


class Share(unittest.TestCase):
    def test_lowest_terms(self):
        for top, bottom, told in [
            (1, 2, (1, 2)), (2, 4, (1, 2)), (4, 2, (2, 1)), (6, 4, (3, 2)), (7, 7, (1, 1)), (7, 1, (7, 1)),
            (0, 1, (0, 1)), (0, 5, (0, 1)), (0, FAR, (0, 1)), (-1, 2, (-1, 2)), (-2, 4, (-1, 2)), (-9, 3, (-3, 1)),
            (-7, 3, (-7, 3)), (FAR, FAR, (1, 1)), (-FAR, 10, (-FAR // 10, 1)), (FAR * 3, FAR * 2, (3, 2)),
            (10 ** 29 + 1, 10 ** 29, (10 ** 29 + 1, 10 ** 29)),
        ]:
            self.assertEqual(share(top, bottom), told)
            self.assertEqual(share(top=top, bottom=bottom), told)

    def test_as_fractions(self):
        for top in range(-30, 31):
            for bottom in range(1, 31):
                told = Fraction(top, bottom)
                self.assertEqual(share(top, bottom), (told.numerator, told.denominator))


class Made(unittest.TestCase):
    def test_the_usual_pace(self):
        self.assertEqual(USUAL, 500000)

    def test_without_paces(self):
        for made in (Map(96), Map(beat=96), Map(96, []), Map(beat=96, paces=())):
            self.assertEqual((made.beat(), made.paces(), len(made)), (96, [], 0))
            self.assertEqual(repr(made), "Map(96, [])")

    def test_with_paces(self):
        made = Map(4, [(7, 3), (0, 5), (2, 16777215), (999999, 1)])
        self.assertEqual(made.beat(), 4)
        self.assertEqual(made.paces(), [(0, 5), (2, 16777215), (7, 3), (999999, 1)])
        self.assertEqual(len(made), 4)
        self.assertEqual(repr(made), "Map(4, [(0, 5), (2, 16777215), (7, 3), (999999, 1)])")
        self.assertEqual(repr(Map(96, [(0, 500000)])), "Map(96, [(0, 500000)])")

    def test_the_later_one_of_a_tick_counts(self):
        made = Map(96, ((5, 1), (3, 2), (5, 4), (5, 3)))
        self.assertEqual((made.paces(), len(made)), ([(3, 2), (5, 3)], 2))

    def test_beats(self):
        for beat in (1, 2, 959, 960):
            self.assertEqual(Map(beat).beat(), beat)
        for beat in (0, -1, 961, FAR, -FAR):
            self.assertRaises(BadBeat, Map, beat)

    def test_ticks_and_paces(self):
        for tick in (-1, 1000000, FAR, -FAR):
            self.assertRaises(BadTick, Map, 96, [(tick, 5)])
        for pace in (0, -1, 16777216, FAR, -FAR):
            self.assertRaises(BadPace, Map, 96, [(5, pace)])
        self.assertEqual(len(Map(96, [(0, 1), (999999, 16777215)])), 2)

    def test_full(self):
        self.assertEqual(len(Map(96, TWENTY[:19])), 19)
        self.assertEqual(Map(96, TWENTY).paces(), TWENTY)
        self.assertRaises(Full, Map, 96, TWENTY + [(500, 1)])
        self.assertEqual(Map(96, TWENTY + TWENTY + [(0, 7)]).paces(), [(0, 7)] + TWENTY[1:])
        self.assertEqual(len(Map(96, [(5, 1)] * 5000)), 1)
        self.assertRaises(Full, Map, 96, [(tick, 1) for tick in range(5000)])

    def test_which_refusal_goes_first(self):
        self.assertRaises(BadBeat, Map, 0, [(-1, 0)] * 21)
        self.assertRaises(BadBeat, Map, 961, [(tick, 1) for tick in range(21)])
        self.assertRaises(BadTick, Map, 96, [(-1, 0)])
        self.assertRaises(BadPace, Map, 96, [(0, 0), (-1, 1)])
        self.assertRaises(BadTick, Map, 96, [(0, 1), (-1, 1), (0, 0)])
        self.assertRaises(BadPace, Map, 96, [(tick, 1) for tick in range(21)] + [(0, 0)])
        self.assertRaises(BadTick, Map, 96, [(tick, 1) for tick in range(21)] + [(-1, 1)])

    def test_what_is_handed_in_is_no_part_of_it(self):
        paces = [(5, 1), (3, 2)]
        made = Map(96, paces)
        self.assertEqual(paces, [(5, 1), (3, 2)])
        paces.append((7, 7))
        paces[0] = (5, 9)
        self.assertEqual(made.paces(), [(3, 2), (5, 1)])
        made.put(9, 9)
        self.assertEqual(paces, [(5, 9), (3, 2), (7, 7)])

    def test_what_is_told_is_no_part_of_it(self):
        made = Map(96, [(5, 1)])
        made.paces().clear()
        made.paces().append((7, 7))
        self.assertEqual(made.paces(), [(5, 1)])


class Changed(unittest.TestCase):
    def test_put(self):
        made = Map(96)
        self.assertIsNone(made.put(5, 7))
        self.assertIsNone(made.put(tick=0, pace=16777215))
        made.put(999999, 1)
        self.assertEqual((made.paces(), len(made)), ([(0, 16777215), (5, 7), (999999, 1)], 3))

    def test_put_anew(self):
        made = Map(96, [(5, 7)])
        made.put(5, 8)
        self.assertEqual((made.paces(), len(made)), ([(5, 8)], 1))

    def test_put_is_refused(self):
        made = Map(96, [(5, 7)])
        for tick in (-1, 1000000, FAR, -FAR):
            self.assertRaises(BadTick, made.put, tick, 5)
            self.assertRaises(BadTick, made.put, tick, 0)
        for pace in (0, -1, 16777216, FAR, -FAR):
            self.assertRaises(BadPace, made.put, 5, pace)
        self.assertEqual(made.paces(), [(5, 7)])

    def test_put_into_a_full_one(self):
        made = Map(96, TWENTY[:19])
        made.put(190, 1019)
        self.assertEqual(made.paces(), TWENTY)
        self.assertRaises(Full, made.put, 1, 5)
        self.assertRaises(BadTick, made.put, -1, 0)
        self.assertRaises(BadPace, made.put, 1, 0)
        self.assertEqual(made.paces(), TWENTY)
        made.put(0, 5)
        made.put(190, 6)
        self.assertEqual(made.paces(), [(0, 5)] + TWENTY[1:19] + [(190, 6)])
        made.drop(50)
        made.put(51, 5)
        self.assertEqual(len(made), 20)
        self.assertRaises(Full, made.put, 50, 5)

    def test_drop(self):
        made = Map(96, [(5, 7), (0, 3)])
        self.assertIsNone(made.drop(tick=5))
        self.assertEqual((made.paces(), len(made)), ([(0, 3)], 1))
        for tick in (5, 1, -1, 1000000, FAR):
            self.assertRaises(NoPace, made.drop, tick)
        self.assertEqual(made.paces(), [(0, 3)])
        made.drop(0)
        self.assertEqual((made.paces(), made.moment(96)), ([], (500000, 1)))


class Moments(unittest.TestCase):
    def test_pace_at(self):
        made = Map(96, [(5, 7), (9, 3)])
        told = [made.pace_at(tick) for tick in (0, 4, 5, 6, 8, 9, 10, 999999)]
        self.assertEqual(told, [500000, 500000, 7, 7, 7, 3, 3, 3])
        self.assertEqual(Map(96, [(0, 7)]).pace_at(tick=0), 7)
        self.assertEqual(Map(96).pace_at(999999), 500000)

    def test_moment(self):
        self.assertEqual(Map(96).moment(0), (0, 1))
        self.assertEqual(Map(96).moment(96), (500000, 1))
        self.assertEqual(Map(96).moment(tick=1), (15625, 3))
        self.assertEqual(Map(960, [(0, 1)]).moment(1), (1, 960))
        self.assertEqual(Map(1).moment(999999), (499999500000, 1))
        self.assertEqual(Map(1, [(0, 16777215)]).moment(999999), (16777198222785, 1))
        made = Map(4, [(4, 10), (6, 3), (999999, 5)])
        told = [made.moment(tick) for tick in (0, 3, 4, 5, 6, 7, 10, 999999)]
        self.assertEqual(told, [(0, 1), (375000, 1), (500000, 1), (1000005, 2), (500005, 1), (2000023, 4), (500008, 1),
                                (500005 * 4 + 999993 * 3, 4)])

    def test_moments_are_told_tick_by_tick(self):
        chance = random.Random(21)
        for _ in range(150):
            made, paces = chance_map(chance)
            for tick in (0, 1, 2, 5, 20, 39, 40, 41, 55):
                self.assertEqual(made.moment(tick), plain_moment(made.beat(), paces, tick))

    def test_no_tick(self):
        made = Map(96, [(5, 7)])
        for tick in (-1, 1000000, -FAR, FAR):
            self.assertRaises(BadTick, made.moment, tick)
            self.assertRaises(BadTick, made.pace_at, tick)

    def test_tick_of(self):
        made = Map(4, [(4, 10), (6, 3)])
        for moment, told in [
            ((0, 1), (0, 1)), ((0, 9), (0, 1)), ((62500, 1), (1, 2)), ((499999, 1), (499999, 125000)),
            ((500000, 1), (4, 1)), ((1000001, 2), (21, 5)), ((1000005, 2), (5, 1)), ((500005, 1), (6, 1)),
            ((500008, 1), (10, 1)), ((500006, 1), (22, 3)), ((2000024, 4), (22, 3)), ((1, 3), (1, 375000)),
        ]:
            self.assertEqual(made.tick_of(moment), told, moment)
            self.assertEqual(made.tick_of(moment=(moment[0] * 12, moment[1] * 12)), told, moment)

    def test_the_tick_of_a_moment_at_a_pace_at_nought(self):
        made = Map(1, [(0, 2), (3, 5)])
        self.assertEqual([made.tick_of((top, 1)) for top in (0, 1, 6, 7, 11)],
                         [(0, 1), (1, 2), (3, 1), (16, 5), (4, 1)])

    def test_behind_the_last_tick(self):
        self.assertEqual(Map(96).tick_of((500000 * FAR, 1)), (96 * FAR, 1))
        self.assertEqual(Map(1, [(999999, 3)]).tick_of((499999500004, 1)), (3000001, 3))
        self.assertEqual(Map(1, [(999999, 3)]).near((499999500004, 1)), 1000000)
        self.assertEqual(Map(1, [(0, 1)]).near((FAR, 1)), FAR)

    def test_large_numbers(self):
        made = Map(960, [(0, 16777215), (7, 16777213)])
        told = made.tick_of((10 ** 30 - 1, 10 ** 30 - 3))
        self.assertEqual(Fraction(*told), Fraction(10 ** 30 - 1, 10 ** 30 - 3) * 960 / 16777215)
        told = made.tick_of((10 ** 30 - 1, 7))
        ahead = Fraction(7 * 16777215, 960)
        self.assertEqual(Fraction(*told), 7 + (Fraction(10 ** 30 - 1, 7) - ahead) * 960 / 16777213)

    def test_to_a_moment_and_back(self):
        chance = random.Random(22)
        for _ in range(200):
            made, paces = chance_map(chance)
            for tick in [tick for tick, _ in paces] + [0, 1, 40, 999999, chance.randint(0, 999999)]:
                self.assertEqual(made.tick_of(made.moment(tick)), (tick, 1))
                self.assertEqual(made.near(made.moment(tick)), tick)

    def test_between_ticks(self):
        chance = random.Random(23)
        for _ in range(200):
            made, _ = chance_map(chance)
            tick = chance.randint(0, 45)
            low, high = Fraction(*made.moment(tick)), Fraction(*made.moment(tick + 1))
            bottom = chance.randint(2, 9)
            part = Fraction(chance.randint(1, bottom - 1), bottom)
            moment = low + (high - low) * part
            pair = (moment.numerator * 6, moment.denominator * 6)
            self.assertEqual(Fraction(*made.tick_of(pair)), tick + part)
            self.assertEqual(made.tick_of(pair), share(*made.tick_of(pair)))
            self.assertEqual(made.near(pair), tick + (1 if part > Fraction(1, 2) else 0))

    def test_of_two_whole_ticks_the_lower(self):
        made = Map(1, [(0, 2)])
        self.assertEqual([made.near((top, 1)) for top in range(8)], [0, 0, 1, 1, 2, 2, 3, 3])
        self.assertEqual([made.near(moment=(top, 4)) for top in range(12)], [0, 0, 0, 0, 0, 1, 1, 1, 1, 1, 1, 1])
        self.assertEqual(made.near((13, 4)), 2)
        self.assertEqual(made.near((FAR * 2 + 1, 1)), FAR)
        self.assertEqual(made.near((FAR * 4 + 3, 2)), FAR + 1)

    def test_no_moment(self):
        made = Map(96, [(5, 7)])
        for moment in ((-1, 1), (-1, FAR), (-FAR, 1), (0, 0), (1, 0), (0, -1), (1, -1), (-1, -1), (5, -FAR)):
            self.assertRaises(BadMoment, made.tick_of, moment)
            self.assertRaises(BadMoment, made.near, moment)

    def test_questions_change_nothing(self):
        made, twin = Map(7, [(5, 7), (2, 9)]), Map(7, [(5, 7), (2, 9)])
        for _ in range(2):
            told = [made.moment(5), made.tick_of((5, 3)), made.near((10 ** 6, 1)), made.pace_at(3), made.paces()]
            self.assertRaises(BadTick, made.moment, -1)
            self.assertRaises(BadMoment, made.near, (-1, 1))
            self.assertEqual(made, twin)
            self.assertEqual(told, [(142861, 1), (7, 300000), 857144, 9, [(2, 9), (5, 7)]])


class Alike(unittest.TestCase):
    def test_equal(self):
        self.assertEqual(Map(96), Map(96))
        self.assertEqual(Map(96, [(1, 2), (3, 4)]), Map(96, ((3, 4), (1, 7), (1, 2))))
        self.assertTrue(Map(96) == Map(96))
        self.assertFalse(Map(96) != Map(96))
        made = Map(96)
        made.put(1, 2)
        self.assertEqual(made, Map(96, [(1, 2)]))
        made.drop(1)
        self.assertEqual(made, Map(96))

    def test_unlike(self):
        made = Map(96, [(1, 2)])
        for other in (Map(95, [(1, 2)]), Map(96), Map(96, [(1, 3)]), Map(96, [(2, 2)]), Map(96, [(1, 2), (2, 2)])):
            self.assertTrue(made != other)
            self.assertFalse(made == other)
            self.assertFalse(other == made)
        # 500000 at 0 sounds like no pace at all, and yet is one.
        self.assertNotEqual(Map(96, [(0, 500000)]), Map(96))

    def test_to_nothing_else(self):
        made = Map(96)
        for other in (96, None, [], (96, []), "Map(96, [])", repr(made), {}, Map, mock.ANY, object()):
            self.assertIs(made == other, False)

    def test_twin(self):
        made = Map(96, [(1, 2)])
        twin = made.twin()
        self.assertIsInstance(twin, Map)
        self.assertIsNot(twin, made)
        self.assertEqual(twin, made)
        self.assertEqual(repr(twin), repr(made))
        twin.put(3, 4)
        made.drop(1)
        self.assertEqual((made.paces(), twin.paces()), ([], [(1, 2), (3, 4)]))
        made.put(1, 9)
        self.assertEqual((made.paces(), twin.paces()), ([(1, 9)], [(1, 2), (3, 4)]))
        self.assertEqual((made.moment(96), twin.pace_at(1)), (Map(96, [(1, 9)]).moment(96), 2))


if __name__ == "__main__":
    unittest.main()
