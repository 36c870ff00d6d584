"""Promises [17] and [10]: grids, tracks evened and moved back, and tracks led by another map."""

import inspect
import math
import random
import unittest
from fractions import Fraction
from unittest import mock

from plain import chance_track, wide_track
from reedtapes.errors import BadGrid, BadPaper, BadTick, BadTrack
from reedtapes.grids import Grid, evened, mapped, unevened
from reedtapes.maps import Map

FAR = 10 ** 29


def mark(tick, text=""):
    return (tick, "mark", text)


def plain_line(step, swing, tick):
    """The nearest of all lines, told one by one."""
    lines = [k * step + (swing if k % 2 else 0) for k in range(-2, tick // step + 4)]
    return min(lines, key=lambda line: (abs(line - tick), line))


class Made(unittest.TestCase):
    def test_as_it_is_written(self):
        self.assertEqual(str(inspect.signature(Grid)), "(step, *, swing=0, share=100)")
        self.assertRaises(TypeError, Grid, 10, 5)

    def test_at_the_bounds(self):
        for step, swing, share in [(1, 0, 0), (1, 0, 100), (9999, 9998, 50), (2, 1, 1), (9999, 0, 99)]:
            self.assertIsInstance(Grid(step, swing=swing, share=share), Grid)
        self.assertEqual(Grid(step=10), Grid(10, swing=0, share=100))

    def test_out_of_bounds(self):
        for step in (0, -1, 10000, FAR, -FAR):
            self.assertRaises(BadGrid, Grid, step)
        for step, swing in [(1, 1), (1, -1), (10, 10), (10, 11), (10, -1), (9999, 9999), (10, FAR), (10, -FAR)]:
            with self.assertRaises(BadGrid):
                Grid(step, swing=swing)
        for share in (-1, 101, FAR, -FAR):
            with self.assertRaises(BadGrid):
                Grid(10, share=share)

    def test_alike(self):
        grid = Grid(10, swing=3, share=50)
        self.assertTrue(grid == Grid(10, swing=3, share=50))
        self.assertFalse(grid != Grid(10, swing=3, share=50))
        for other in (Grid(11, swing=3, share=50), Grid(10, swing=4, share=50), Grid(10, swing=3, share=51)):
            self.assertFalse(grid == other)
            self.assertTrue(grid != other)

    def test_to_nothing_else(self):
        for other in (None, 10, (10, 0, 100), [], Grid, mock.ANY, object()):
            self.assertIs(Grid(10) == other, False)


class Lines(unittest.TestCase):
    def test_without_swing(self):
        grid = Grid(10)
        for tick, line in [(0, 0), (1, 0), (5, 0), (6, 10), (10, 10), (14, 10), (15, 10), (16, 20), (999999, 1000000)]:
            self.assertEqual(grid.line(tick=tick), line)
            self.assertEqual(grid.moved(tick=tick), line)

    def test_with_swing(self):
        grid = Grid(10, swing=6)
        for tick, line in [(0, 0), (8, 0), (9, 16), (16, 16), (18, 16), (19, 20), (20, 20), (28, 20), (29, 36), (38, 36),
                           (39, 40)]:
            self.assertEqual(grid.line(tick), line, tick)

    def test_a_step_of_one(self):
        for tick in (0, 1, 7, 999999):
            self.assertEqual(Grid(1).line(tick), tick)

    def test_every_line(self):
        for step in (1, 2, 3, 7, 10):
            for swing in range(step):
                grid = Grid(step, swing=swing)
                self.assertEqual([grid.line(tick) for tick in range(60)],
                                 [plain_line(step, swing, tick) for tick in range(60)])

    def test_far_ones(self):
        grid = Grid(9999, swing=9998)
        self.assertEqual(Grid(10).line(FAR + 5), FAR)
        self.assertEqual(Grid(10).line(FAR + 6), FAR + 10)
        self.assertEqual(Grid(10, swing=1).line(FAR + 6), FAR + 11)
        self.assertEqual(grid.line(9999 * 10 ** 20 + 4), 9999 * 10 ** 20)
        self.assertEqual(Grid(10, share=50).moved(FAR + 4), FAR + 2)


class Moved(unittest.TestCase):
    def test_by_the_share(self):
        for share, tick, told in [
            (0, 4, 4), (0, 7, 7), (100, 4, 0), (100, 7, 10), (50, 4, 2), (50, 7, 9), (50, 8, 9), (50, 9, 10), (50, 1, 1),
            (50, 3, 2), (25, 4, 3), (25, 2, 2), (25, 1, 1), (25, 8, 9), (25, 9, 9), (1, 5, 5), (10, 5, 5), (9, 5, 5),
            (11, 5, 4), (99, 5, 0), (90, 5, 1), (89, 5, 1),
        ]:
            self.assertEqual(Grid(10, share=share).moved(tick), told, (share, tick))

    def test_as_the_formula_says(self):
        chance = random.Random(81)
        for _ in range(500):
            step = chance.randint(1, 30)
            swing, share = chance.randrange(step), chance.randint(0, 100)
            grid, tick = Grid(step, swing=swing, share=share), chance.randint(0, 200)
            line = plain_line(step, swing, tick)
            self.assertEqual(grid.moved(tick), tick + (share * (line - tick) + 50) // 100)


class Evened(unittest.TestCase):
    TRACK = [mark(1), (4, "on", 1, 2, 3), (4, "voice", 1, 2), mark(6), mark(19)]

    def test_the_track_and_the_old_ticks(self):
        told = evened(track=self.TRACK, grid=Grid(10))
        self.assertEqual(told, ([mark(0), (0, "on", 1, 2, 3), (0, "voice", 1, 2), mark(10), mark(20)],
                                [1, 4, 4, 6, 19]))
        self.assertIsInstance(told, tuple)
        self.assertEqual(evened([], Grid(10)), ([], []))

    def test_back(self):
        told, olds = evened(self.TRACK, Grid(7, swing=2, share=70))
        self.assertEqual(unevened(track=told, olds=olds), self.TRACK)
        self.assertEqual(unevened([], []), [])

    def test_beyond(self):
        self.assertEqual(evened([mark(999994)], Grid(10))[0], [mark(999990)])
        self.assertRaises(BadTick, evened, [mark(999996)], Grid(10))
        self.assertRaises(BadTick, evened, [mark(0), mark(999999)], Grid(10))
        self.assertEqual(evened([mark(999999)], Grid(10, share=0))[0], [mark(999999)])
        self.assertEqual(evened([mark(999999)], Grid(10, share=49))[0], [mark(999999)])
        self.assertRaises(BadTick, evened, [mark(999999)], Grid(10, share=50))

    def test_ticks_never_fall(self):
        chance = random.Random(82)
        for _ in range(100):
            step = chance.randint(1, 9)
            track = chance_track(chance, 20, most_step=3)
            told, olds = evened(track, Grid(step, swing=chance.randrange(step), share=chance.randint(0, 100)))
            ticks = [event[0] for event in told]
            self.assertEqual(ticks, sorted(ticks))
            self.assertEqual([event[1:] for event in told], [event[1:] for event in track])
            self.assertEqual(unevened(told, olds), track)

    def test_what_is_handed_in_stays(self):
        track, grid = list(self.TRACK), Grid(10, swing=3)
        for told in evened(track, grid):
            told.clear()
        self.assertEqual((track, grid), (self.TRACK, Grid(10, swing=3)))


class Unevened(unittest.TestCase):
    def test_another_count(self):
        track = [mark(0), mark(1)]
        for olds in ([], [5], [5, 6, 7], [-1], [9, 8, 7]):
            self.assertRaises(BadPaper, unevened, track, olds)
        self.assertRaises(BadPaper, unevened, [], [0])

    def test_then_as_need_track(self):
        track = [mark(0), mark(1), mark(2)]
        for olds, at in [([5, 4, 6], 1), ([5, 6, 4], 2), ([-1, 0, 0], 0), ([0, 0, 1000000], 2), ([0, FAR, 1], 1),
                         ([9, 8, -1], 1)]:
            with self.assertRaises(BadTrack) as caught:
                unevened(track, olds)
            self.assertEqual(caught.exception.at, at)
        self.assertEqual(unevened(track, [7, 7, 999999]), [mark(7), mark(7), mark(999999)])

    def test_what_is_handed_in_stays(self):
        track, olds = [mark(0)], [7]
        unevened(track, olds).clear()
        self.assertEqual((track, olds), ([mark(0)], [7]))


class Mapped(unittest.TestCase):
    def test_by_hand(self):
        track = [mark(0), (1, "on", 1, 2, 3), (1, "off", 1, 2, 3), mark(2), mark(3)]
        told = mapped(track=track, old=Map(4), new=Map(2))
        self.assertIsInstance(told, tuple)
        self.assertEqual(told, ([mark(0), (0, "on", 1, 2, 3), (0, "off", 1, 2, 3), mark(1), mark(1)],
                                [(0, 1), (-1, 2), (-1, 2), (0, 1), (-1, 2)]))

    def test_both_ways_off(self):
        told, offs = mapped([mark(1), mark(2)], Map(3), Map(2))
        self.assertEqual((told, offs), ([mark(1), mark(1)], [(1, 3), (-1, 3)]))

    def test_the_same_map(self):
        track = [mark(0), mark(7), mark(999999)]
        led = Map(96, [(5, 7)])
        self.assertEqual(mapped(track, led, led), (track, [(0, 1)] * 3))
        self.assertEqual(mapped([], led, Map(1)), ([], []))

    def test_beyond(self):
        self.assertEqual(mapped([mark(499999)], Map(1), Map(2))[0], [mark(999998)])
        self.assertRaises(BadTick, mapped, [mark(500000)], Map(1), Map(2))
        self.assertRaises(BadTick, mapped, [mark(0), mark(1)], Map(1, [(0, 16777215)]), Map(960, [(0, 1)]))

    def test_many(self):
        chance = random.Random(83)
        for _ in range(150):
            maps = [Map(chance.choice([1, 2, 7, 96]), [(chance.randint(0, 20), chance.choice([5, 70, 500000]))
                                                       for _ in range(chance.randint(0, 4))]) for _ in range(2)]
            track = chance_track(chance, 12, most_step=3)
            new_ticks = [Fraction(*maps[1].tick_of(maps[0].moment(event[0]))) for event in track]
            near = [math.ceil(tick - Fraction(1, 2)) for tick in new_ticks]
            if max(near) > 999999:
                self.assertRaises(BadTick, mapped, track, *maps)
                continue
            told, offs = mapped(track, *maps)
            self.assertEqual(told, [(tick, *event[1:]) for tick, event in zip(near, track)])
            self.assertEqual([tick - Fraction(*off) for tick, off in zip(near, offs)], new_ticks)
            for off in offs:
                self.assertEqual(off, (Fraction(*off).numerator, Fraction(*off).denominator))

    def test_what_is_handed_in_stays(self):
        track, old, new = [mark(3)], Map(4, [(1, 2)]), Map(3)
        for told in mapped(track, old, new):
            told.clear()
        self.assertEqual((track, old, new), ([mark(3)], Map(4, [(1, 2)]), Map(3)))

    def test_large(self):
        chance = random.Random(84)
        track = wide_track(chance, 200)
        old = Map(960, [(tick * 100, chance.randint(1, 1000)) for tick in range(20)])
        new = Map(96, [(tick * 70, chance.randint(100, 16777215)) for tick in range(20)])
        told, offs = mapped(track, old, new)
        self.assertEqual((len(told), len(offs)), (200, 200))


if __name__ == "__main__":
    unittest.main()
