"""Promises [5], [6] and [7]: tracks in the fewest bytes, their prices, and thrifty orders."""

import random
import unittest
from itertools import groupby, permutations, product

from plain import chance_event, chance_track, plain_forms, ways
from reedtapes.events import need_track
from reedtapes.gaps import gap_bytes
from reedtapes.heads import cost, prices, thrifty, written


def plain_prices(track):
    told = []
    for place in range(len(track) + 1):
        heads = {head for head, _ in plain_forms(track[place - 1])} if place else {0}
        heads = {0 if head == 240 else head for head in heads}
        told.append([(head, min(len(row) for row in ways(track, place, head))) for head in sorted(heads)])
    return told


def kept(order, group):
    """Whether an order of a tick's events keeps each channel's events, and the marks, in theirs."""
    for owner in set(map(owner_of, group)):
        if [e for e in order if owner_of(e) == owner] != [e for e in group if owner_of(e) == owner]:
            return False
    return len(order) == len(group)


def owner_of(event):
    return "mark" if event[1] == "mark" else event[2]


def groups_of(track):
    return [list(group) for _, group in groupby(track, key=lambda event: event[0])]


def is_an_order_of(told, track):
    before, behind = groups_of(track), groups_of(told)
    if [len(group) for group in before] != [len(group) for group in behind]:
        return False
    for old, new in zip(before, behind):
        if old[0][0] != new[0][0] or not kept(new, old) or (len(old) > 6 and old != new):
            return False
    return True


def fewest(track):
    """The fewest bytes of all orders that are free."""
    choices = []
    for group in groups_of(track):
        orders = permutations(group) if len(group) <= 6 else [tuple(group)]
        choices.append({order for order in orders if kept(list(order), group)})
    return min(cost([event for order in orders for event in order]) for orders in product(*choices))


class Written(unittest.TestCase):
    def test_nothing(self):
        self.assertEqual(written([]), [0, 255])
        self.assertEqual(cost([]), 2)

    def test_one_of_each(self):
        self.assertEqual(written([(5, "off", 3, 60, 7)]), [5, 131, 60, 7, 0, 255])
        self.assertEqual(written([(5, "off", 15, 127, 127)]), [5, 143, 127, 127, 0, 255])
        self.assertEqual(written([(5, "on", 0, 60, 64)]), [5, 144, 60, 64, 0, 255])
        self.assertEqual(written([(5, "on", 15, 60, 1)]), [5, 159, 60, 1, 0, 255])
        self.assertEqual(written([(5, "knob", 0, 1, 2)]), [5, 160, 1, 2, 0, 255])
        self.assertEqual(written([(5, "knob", 15, 1, 2)]), [5, 175, 1, 2, 0, 255])
        self.assertEqual(written([(5, "voice", 0, 9)]), [5, 176, 9, 0, 255])
        self.assertEqual(written([(5, "voice", 15, 9)]), [5, 191, 9, 0, 255])
        self.assertEqual(written([(5, "mark", "")]), [5, 240, 0, 0, 255])
        self.assertEqual(written([(5, "mark", "az 09")]), [5, 240, 5, 97, 122, 32, 48, 57, 0, 255])

    def test_gaps_are_since_the_event_ahead(self):
        track = [(127, "voice", 0, 1), (255, "voice", 0, 2), (255, "voice", 0, 3), (16639, "voice", 0, 4)]
        self.assertEqual(written(track), [127, 176, 1, 129, 0, 2, 0, 3, 129, 128, 0, 4, 0, 255])
        self.assertEqual(written([(999999, "voice", 0, 1)]), gap_bytes(999999) + [176, 1, 0, 255])

    def test_heads_are_left_out(self):
        track = [(0, "on", 1, 60, 9), (0, "on", 1, 62, 9), (0, "on", 2, 64, 9), (0, "knob", 2, 1, 1)]
        self.assertEqual(written(track), [0, 145, 60, 9, 0, 62, 9, 0, 146, 64, 9, 0, 162, 1, 1, 0, 255])

    def test_a_marks_head_never_is(self):
        track = [(0, "mark", "a"), (0, "mark", "b")]
        self.assertEqual(written(track), [0, 240, 1, 97, 0, 240, 1, 98, 0, 255])

    def test_none_is_left_out_behind_a_mark(self):
        track = [(0, "voice", 1, 5), (0, "mark", ""), (0, "voice", 1, 6)]
        self.assertEqual(written(track), [0, 177, 5, 0, 240, 0, 0, 177, 6, 0, 255])

    def test_an_off_of_force_64_among_on(self):
        track = [(0, "on", 1, 60, 9), (4, "off", 1, 60, 64), (4, "on", 1, 62, 9)]
        self.assertEqual(written(track), [0, 145, 60, 9, 4, 60, 0, 0, 62, 9, 0, 255])

    def test_an_off_of_force_64_among_off(self):
        track = [(0, "off", 1, 60, 9), (4, "off", 1, 60, 64), (4, "off", 1, 62, 9)]
        self.assertEqual(written(track), [0, 129, 60, 9, 4, 60, 64, 0, 62, 9, 0, 255])

    def test_an_off_of_another_force(self):
        for force in (0, 1, 63, 65, 127):
            track = [(0, "on", 1, 60, 9), (4, "off", 1, 60, force), (4, "on", 1, 62, 9)]
            self.assertEqual(written(track), [0, 145, 60, 9, 4, 129, 60, force, 0, 145, 62, 9, 0, 255])

    def test_an_off_of_another_channel(self):
        track = [(0, "on", 1, 60, 9), (4, "off", 2, 60, 64), (4, "on", 1, 62, 9)]
        self.assertEqual(cost(track), 4 + 4 + 4 + 2)

    def test_the_form_looks_ahead(self):
        lone = [(0, "off", 1, 60, 64)]
        self.assertEqual(written(lone + [(0, "on", 1, 60, 9)]), [0, 145, 60, 0, 0, 60, 9, 0, 255])
        self.assertEqual(written(lone + [(0, "off", 1, 60, 9)]), [0, 129, 60, 64, 0, 60, 9, 0, 255])
        self.assertEqual(written(lone * 3 + [(0, "on", 1, 60, 9)]),
                         [0, 145, 60, 0, 0, 60, 0, 0, 60, 0, 0, 60, 9, 0, 255])

    def test_many_are_the_fewest_of_all_ways(self):
        chance = random.Random(1)
        for _ in range(300):
            track = chance_track(chance, chance.randint(0, 6))
            rows = ways(track)
            self.assertIn(written(track), rows)
            self.assertEqual(cost(track), min(len(row) for row in rows))
            self.assertEqual(len(written(track)), cost(track))

    def test_equal_tracks_are_written_alike(self):
        chance = random.Random(2)
        for _ in range(50):
            track = chance_track(chance, 30)
            self.assertEqual(written(track), written([tuple(list(event)) for event in track]))

    def test_200_events(self):
        track = [(0, "off", 1, 60, 64)] * 200
        self.assertEqual(cost(track), 200 * 3 + 1 + 2)
        self.assertEqual(len(written(track)), 603)

    def test_by_name(self):
        self.assertEqual(written(track=[]), [0, 255])
        self.assertEqual(cost(track=[]), 2)


class Prices(unittest.TestCase):
    def test_nothing(self):
        self.assertEqual(prices([]), [[(0, 2)]])

    def test_by_hand(self):
        track = [(0, "off", 1, 60, 64), (0, "on", 1, 60, 3), (300, "mark", "a b"), (300, "voice", 2, 1)]
        self.assertEqual(prices(track), [[(0, 19)], [(129, 16), (145, 15)], [(145, 12)], [(0, 5)], [(178, 2)]])

    def test_a_mark_leaves_none(self):
        self.assertEqual(prices([(0, "mark", ""), (0, "mark", "")]), [[(0, 8)], [(0, 5)], [(0, 2)]])

    def test_both_forms_at_the_end(self):
        self.assertEqual(prices([(0, "off", 15, 60, 64)]), [[(0, 6)], [(143, 2), (159, 2)]])
        self.assertEqual(prices([(0, "off", 15, 60, 63)]), [[(0, 6)], [(143, 2)]])

    def test_a_form_that_is_not_in_the_fewest(self):
        track = [(0, "on", 0, 1, 1), (0, "off", 0, 1, 64), (0, "on", 0, 2, 1)]
        self.assertEqual(prices(track), [[(0, 12)], [(144, 8)], [(128, 6), (144, 5)], [(144, 2)]])

    def test_many(self):
        chance = random.Random(3)
        for _ in range(300):
            track = chance_track(chance, chance.randint(0, 6))
            self.assertEqual(prices(track), plain_prices(track), track)

    def test_new_lists(self):
        track = [(0, "off", 15, 60, 64)]
        told = prices(track=track)
        told[0].clear()
        told[1].clear()
        told.clear()
        self.assertEqual(track, [(0, "off", 15, 60, 64)])
        self.assertEqual(prices(track), [[(0, 6)], [(143, 2), (159, 2)]])

    def test_200_events(self):
        told = prices([(0, "off", 1, 60, 64)] * 200)
        self.assertEqual(len(told), 201)
        self.assertEqual(told[0], [(0, 603)])
        self.assertEqual(told[1], [(129, 599), (145, 599)])


class Thrifty(unittest.TestCase):
    def check(self, track, best=None):
        before = list(track)
        told = thrifty(track)
        self.assertEqual(track, before)
        self.assertIsNot(told, track)
        self.assertTrue(is_an_order_of(told, track), (track, told))
        self.assertIsNone(need_track(told))
        self.assertEqual(cost(told), fewest(track) if best is None else best, track)
        self.assertEqual(thrifty(before), told)

    def test_nothing_and_one(self):
        self.assertEqual(thrifty([]), [])
        self.assertEqual(thrifty([(3, "mark", "a")]), [(3, "mark", "a")])

    def test_channels_come_together(self):
        one, two = (0, "voice", 1, 5), (0, "voice", 2, 5)
        self.check([one, two, one, two, one, two], 6 * 2 + 2 + 2)

    def test_one_channel_keeps_its_order(self):
        track = [(0, "voice", 1, 5), (0, "knob", 1, 2, 3), (0, "voice", 1, 6), (0, "knob", 1, 4, 5)]
        self.assertEqual(thrifty(track), track)

    def test_marks_keep_theirs(self):
        track = [(0, "mark", "b"), (0, "mark", "a"), (0, "mark", "c")]
        self.assertEqual(thrifty(track), track)
        track = [(0, "mark", "b"), (0, "mark", "a"), (0, "mark", "b")]
        self.assertEqual(thrifty(track), track)

    def test_a_mark_goes_aside(self):
        self.check([(0, "voice", 1, 5), (0, "mark", "a"), (0, "voice", 1, 6)], 4 + 3 + 2 + 2)
        self.check([(0, "voice", 1, 5), (0, "mark", "b"), (0, "voice", 1, 6), (0, "mark", "a")], 4 * 2 + 3 + 2 + 2)

    def test_ticks_are_not_mixed(self):
        self.check([(0, "voice", 1, 5), (1, "voice", 2, 5), (2, "voice", 1, 5)], 3 * 3 + 2)

    def test_a_tick_looks_at_the_next_one(self):
        track = [(0, "voice", 1, 5), (0, "voice", 2, 5), (1, "voice", 1, 6), (1, "mark", "")]
        self.check(track, 3 + 3 + 2 + 3 + 2)

    def test_a_dearer_end_of_a_tick_may_be_cheaper_later(self):
        track = [(0, "off", 1, 5, 64), (0, "off", 2, 5, 64), (1, "on", 1, 6, 1), (1, "off", 2, 7, 1),
                 (2, "on", 2, 6, 1), (2, "off", 1, 7, 64), (2, "mark", "")]
        self.check(track)

    def test_six_events_are_free_and_seven_stay(self):
        one, two = (4, "voice", 1, 5), (4, "voice", 2, 5)
        six = [one, two] * 3
        self.check(six, 6 * 2 + 2 + 2)
        self.assertEqual(thrifty(six + [one]), six + [one])
        self.assertEqual(thrifty([one, two] * 100), [one, two] * 100)

    def test_seven_stay_among_others(self):
        ahead = [(0, "voice", 2, 5), (0, "voice", 1, 5)]
        seven = [(4, "voice", 1 + place % 2, 5) for place in range(7)]
        behind = [(9, "voice", 1, 5), (9, "voice", 2, 5)]
        self.check(seven + behind)
        self.check(list(reversed(ahead)) + seven + behind)
        self.check(ahead + seven + list(reversed(behind)))

    def test_forms_go_along(self):
        track = [(0, "on", 1, 60, 9), (0, "on", 2, 60, 9), (5, "off", 1, 60, 64), (5, "off", 2, 60, 64),
                 (5, "on", 1, 61, 9), (5, "on", 2, 61, 9)]
        self.check(track, 6 * 3 + 2 + 1 + 2)

    def test_many(self):
        chance = random.Random(4)
        for _ in range(150):
            self.check(chance_track(chance, chance.randint(0, 7), channels=3))
        for _ in range(60):
            self.check(chance_track(chance, chance.randint(5, 9), channels=4, most_step=chance.randint(1, 2)))

    def test_six_at_one_tick_and_some_beside(self):
        chance = random.Random(5)
        for _ in range(12):
            ahead = [chance_event(chance, 0, 3) for _ in range(2)]
            behind = [chance_event(chance, 9, 3) for _ in range(2)]
            self.check(ahead + [chance_event(chance, 5, 4) for _ in range(6)] + behind)

    def test_200_events_in_many_orders(self):
        track = [(place // 6, "voice", place % 6, 5) for place in range(200)]
        # Of each tick but the first one the first event has the last one's channel of the tick ahead.
        self.check(track, 200 * 3 - 33 + 2)

    def test_200_events_of_two_forms(self):
        track = [(place // 6, "off", place % 6, 5, 64) for place in range(200)]
        self.check(track, 200 * 4 - 33 + 2)

    def test_by_name(self):
        self.assertEqual(thrifty(track=[]), [])

    def test_a_new_list(self):
        track = [(0, "mark", "a")]
        thrifty(track).clear()
        self.assertEqual(track, [(0, "mark", "a")])


if __name__ == "__main__":
    unittest.main()
