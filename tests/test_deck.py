"""Promise [20]: decks, each of their deeds, and what is taken back and done again."""

import random
import unittest
from unittest import mock

from plain import wide_track
from plain_deck import Refused, chance_deed, fresh_between, plain_do, tapes_of
from reedtapes.deck import Deck
from reedtapes.errors import (BadBeat, BadChannel, BadDeed, BadEvent, BadGrid, BadKey, BadName, BadPace, BadTick,
                              Full, MissingError, NoEvent, NoPace, NoTape, NotWhole, NothingLeft, NoTrack, Taken,
                              TapeError)
from reedtapes.maps import Map
from reedtapes.sound import unlike
from reedtapes.tape import Tape
from reedtapes.tracks import glued

FAR = 10 ** 29
NO_TICKS = (-1, 1000000, FAR, -FAR)


def on(tick, key=60, channel=1):
    return (tick, "on", channel, key, 100)


def off(tick, key=60, channel=1):
    return (tick, "off", channel, key, 64)


def mark(tick, text=""):
    return (tick, "mark", text)


def deck_of(*deeds):
    deck = Deck()
    for deed in deeds:
        deck.do(deed)
    return deck


def with_tracks(*tracks, beat=96, paces=()):
    """A deck with a tape called `a` of these tracks."""
    deck = deck_of(("new", "a", beat), *[("add", "a")] * (len(tracks) - 1))
    deck.do_all([("put", "a", number, event) for number, track in enumerate(tracks) for event in track])
    deck.do_all([("pace", "a", tick, pace) for tick, pace in paces])
    return deck


def full_deck():
    """A deck of as much as there can be, but for ten events of each first track."""
    deck, chance = Deck(), random.Random(3)
    for name in "abcdef":
        deck.do(("new", name, 96))
        deck.do_all([("add", name)] * 5)
        deck.do_all([("pace", name, tick * 7, 1000 + tick) for tick in range(20)])
        for number in range(6):
            events = wide_track(chance, 200, most_step=5)
            deck.do_all([("put", name, number, event) for event in events[:190 if number == 0 else 200]])
    return deck


class Case(unittest.TestCase):
    def refused(self, error, deck, *deeds):
        """Each of the deeds is refused so, and changes nothing."""
        before = (tapes_of(deck), deck.deeds(), deck.fresh(), deck.twin())
        for deed in deeds:
            with self.assertRaises(error) as caught:
                deck.do(deed)
            self.assertIs(type(caught.exception), error, deed)
            self.assertFalse(deck.busy())
        self.assertEqual((tapes_of(deck), deck.deeds(), deck.fresh()), before[:3])

    def makes(self, deck, deed, *tracks):
        """The deed makes these tracks of the tape `a`."""
        self.assertIsNone(deck.do(deed))
        self.assertEqual(deck.tape("a").tracks(), list(tracks))
        self.assertEqual(deck.deeds()[-1], [deed])


class NewAndDrop(Case):
    def test_new(self):
        deck = Deck()
        self.assertEqual((deck.names(), len(deck), deck.deeds(), deck.fresh(), deck.busy()), ([], 0, [], [], False))
        self.assertIsNone(deck.do(deed=("new", "song", 7)))
        self.assertEqual((deck.names(), len(deck), deck.tape(name="song")), (["song"], 1, Tape(7)))
        deck.do(("new", "a", 960))
        deck.do(("new", "zzzzzzzz", 1))
        self.assertEqual(deck.names(), ["a", "song", "zzzzzzzz"])

    def test_names(self):
        deck = deck_of(("new", "a", 1))
        self.refused(BadName, deck, *[("new", name, 1) for name in (
            "", "toolonger", "A", "aB", "a1", "a ", " ", "-", "a\n", "{", "`")])
        self.refused(Taken, deck, ("new", "a", 1), ("new", "a", 0))

    def test_beats(self):
        deck = deck_of(("new", "a", 1), ("new", "b", 960))
        self.refused(BadBeat, deck, *[("new", "c", beat) for beat in (0, -1, 961, FAR, -FAR)])

    def test_full(self):
        deck = deck_of(*[("new", name, 1) for name in "abcde"])
        deck.do(("new", "f", 1))
        self.refused(Full, deck, ("new", "g", 1))
        self.refused(BadBeat, deck, ("new", "g", 0))
        self.refused(Taken, deck, ("new", "f", 0))
        self.refused(BadName, deck, ("new", "G", 0))
        deck.do(("drop", "c"))
        deck.do(("new", "g", 1))
        self.assertEqual((deck.names(), len(deck)), (list("abdefg"), 6))

    def test_drop(self):
        deck = deck_of(("new", "a", 1), ("new", "b", 2))
        deck.do(("drop", "a"))
        self.assertEqual(deck.names(), ["b"])
        self.refused(NoTape, deck, ("drop", "a"), ("drop", "A"), ("drop", ""))
        self.assertRaises(NoTape, deck.tape, "a")
        deck.do(("new", "a", 5))
        self.assertEqual(deck.tape("a"), Tape(5))


class Tracks(Case):
    def test_add(self):
        deck = with_tracks([mark(0)])
        for many in range(1, 6):
            self.makes(deck, ("add", "a"), [mark(0)], *[[]] * many)
        self.refused(Full, deck, ("add", "a"))
        self.refused(NoTape, deck, ("add", "b"))

    def test_put(self):
        deck = with_tracks([mark(5, "a"), mark(9)], [])
        self.makes(deck, ("put", "a", 0, mark(5, "b")), [mark(5, "a"), mark(5, "b"), mark(9)], [])
        self.makes(deck, ("put", "a", 1, on(999999)), [mark(5, "a"), mark(5, "b"), mark(9)], [on(999999)])
        self.refused(BadEvent, deck, *[("put", "a", 0, event) for event in (
            (), (5,), (5, "zap"), (-1, "mark", ""), (1000000, "mark", ""), (0, "mark", "A"), (0, "on", 1, 60, 0),
            (0, "on", 16, 60, 1), (0, "voice", 1), ("mark", 0, ""))])
        self.refused(NoTrack, deck, *[("put", "a", number, mark(0)) for number in (-1, 2, 6, FAR, -FAR)])
        self.refused(NoTrack, deck, ("put", "a", -1, (5,)), ("put", "a", 2, (5,)))
        self.refused(NoTape, deck, ("put", "b", -1, (5,)))

    def test_put_into_a_full_one(self):
        deck = with_tracks([mark(5)] * 199)
        deck.do(("put", "a", 0, mark(0)))
        self.refused(Full, deck, ("put", "a", 0, mark(0)))
        self.refused(BadEvent, deck, ("put", "a", 0, (0, "zap")))
        self.refused(NoTrack, deck, ("put", "a", 1, mark(0)))
        self.assertEqual(deck.tape("a").tracks(), [[mark(0)] + [mark(5)] * 199])

    def test_take(self):
        deck = with_tracks([mark(0, "a"), mark(5, "b"), mark(9, "c")], [])
        self.refused(NoEvent, deck, *[("take", "a", 0, place) for place in (-1, -3, 3, FAR, -FAR)])
        self.refused(NoEvent, deck, ("take", "a", 1, 0))
        self.refused(NoTrack, deck, ("take", "a", -1, 0), ("take", "a", 2, -1))
        self.refused(NoTape, deck, ("take", "b", 9, 9))
        self.makes(deck, ("take", "a", 0, 1), [mark(0, "a"), mark(9, "c")], [])
        self.makes(deck, ("take", "a", 0, 1), [mark(0, "a")], [])
        self.makes(deck, ("take", "a", 0, 0), [], [])

    def test_later(self):
        deck = with_tracks([on(5), off(9)], [mark(0)])
        self.makes(deck, ("later", "a", 0, 999990), [on(999995), off(999999)], [mark(0)])
        self.refused(BadTick, deck, ("later", "a", 0, 1), ("later", "a", 0, -999996), ("later", "a", 0, FAR),
                     ("later", "a", 1, -1), ("later", "a", 1, -FAR))
        self.refused(NoTrack, deck, ("later", "a", -1, FAR), ("later", "a", 2, 0))
        self.refused(NoTape, deck, ("later", "b", 0, 0))
        self.makes(deck, ("later", "a", 0, -999995), [on(0), off(4)], [mark(0)])
        self.makes(deck, ("later", "a", 1, 0), [on(0), off(4)], [mark(0)])

    def test_keyed(self):
        deck = with_tracks([on(0, 5), (0, "knob", 1, 126, 1), mark(0), off(1, 7)], [])
        self.makes(deck, ("keyed", "a", 0, 120), [on(0, 125), (0, "knob", 1, 126, 1), mark(0), off(1, 127)], [])
        self.refused(BadKey, deck, ("keyed", "a", 0, 1), ("keyed", "a", 0, -126), ("keyed", "a", 0, FAR))
        self.refused(NoTrack, deck, ("keyed", "a", -1, FAR), ("keyed", "a", 2, 0))
        self.refused(NoTape, deck, ("keyed", "b", -1, FAR))
        self.makes(deck, ("keyed", "a", 0, -125), [on(0, 0), (0, "knob", 1, 126, 1), mark(0), off(1, 2)], [])
        deck.do(("keyed", "a", 1, 999))

    def test_even(self):
        deck = with_tracks([on(1), off(8), mark(999999)], [mark(4)])
        self.makes(deck, ("even", "a", 1, 10, 3, 50), [on(1), off(8), mark(999999)], [mark(2)])
        self.refused(BadTick, deck, ("even", "a", 0, 10, 0, 100))
        self.refused(BadGrid, deck, *[("even", "a", 0, *grid) for grid in (
            (0, 0, 0), (10000, 0, 0), (-1, 0, 0), (10, 10, 0), (10, -1, 0), (10, 0, 101), (10, 0, -1), (FAR, 0, 0))])
        self.refused(NoTrack, deck, ("even", "a", 2, 0, 0, 0), ("even", "a", -1, 10, 0, 0))
        self.refused(NoTape, deck, ("even", "b", 2, 0, 0, 0))
        self.makes(deck, ("even", "a", 0, 9, 0, 100), [on(0), off(9), mark(999999)], [mark(2)])

    def test_cure(self):
        deck = with_tracks([off(0), on(1), on(2, 61), off(3), mark(4)], [])
        self.makes(deck, ("cure", "a", 0), [on(1), on(2, 61), off(3), mark(4), off(4, 61)], [])
        self.makes(deck, ("cure", "a", 1), [on(1), on(2, 61), off(3), mark(4), off(4, 61)], [])
        self.refused(NoTrack, deck, ("cure", "a", 2), ("cure", "a", -1))
        self.refused(NoTape, deck, ("cure", "b", 2))

    def test_cure_at_its_bound(self):
        deck = with_tracks([on(0, key) for key in range(100)])
        deck.do(("cure", "a", 0))
        self.assertEqual(len(deck.tape("a")), 200)
        deck = with_tracks([on(0, key) for key in range(100)] + [mark(0)])
        self.refused(Full, deck, ("cure", "a", 0))


class Paces(Case):
    def test_pace(self):
        deck = deck_of(("new", "a", 96))
        deck.do(("pace", "a", 5, 7))
        deck.do(("pace", "a", 0, 16777215))
        deck.do(("pace", "a", 5, 8))
        deck.do(("pace", "a", 999999, 1))
        self.assertEqual(deck.tape("a").paces(), [(0, 16777215), (5, 8), (999999, 1)])
        self.refused(BadTick, deck, *[("pace", "a", tick, pace) for tick in NO_TICKS for pace in (0, 5)])
        self.refused(BadPace, deck, *[("pace", "a", 5, pace) for pace in (0, -1, 16777216, FAR)])
        self.refused(NoTape, deck, ("pace", "b", -1, 0))

    def test_full(self):
        deck = with_tracks([], paces=[(tick, 5) for tick in range(19)])
        deck.do(("pace", "a", 50, 5))
        self.refused(Full, deck, ("pace", "a", 51, 5))
        self.refused(BadPace, deck, ("pace", "a", 51, 0))
        deck.do(("pace", "a", 50, 6))
        deck.do(("unpace", "a", 3))
        deck.do(("pace", "a", 51, 5))
        self.assertEqual(len(deck.tape("a").paces()), 20)

    def test_unpace(self):
        deck = with_tracks([], paces=[(5, 7), (9, 8)])
        self.refused(NoPace, deck, *[("unpace", "a", tick) for tick in (0, 4, 8, *NO_TICKS)])
        self.refused(NoTape, deck, ("unpace", "b", 5))
        deck.do(("unpace", "a", 5))
        self.assertEqual(deck.tape("a").paces(), [(9, 8)])
        self.refused(NoPace, deck, ("unpace", "a", 5))


class MergeAndPart(Case):
    def test_merge(self):
        one, two, three = [mark(0, "a"), mark(5, "a")], [mark(0, "b"), mark(5, "b"), mark(9, "b")], [mark(3, "c")]
        both = [one[0], two[0], one[1], two[1], two[2]]
        self.makes(with_tracks(one, two, three), ("merge", "a", 0, 1), both, three)
        self.makes(with_tracks(one, two, three), ("merge", "a", 1, 0), [two[0], one[0], two[1], one[1], two[2]], three)
        self.makes(with_tracks(one, three, two), ("merge", "a", 0, 2), both, three)
        self.makes(with_tracks(three, two, one), ("merge", "a", 2, 0), two, [one[0], three[0], one[1]])
        self.makes(with_tracks(one, []), ("merge", "a", 1, 0), one)

    def test_merge_is_refused(self):
        deck = with_tracks([mark(0)] * 101, [mark(1)] * 100, [mark(1)] * 99)
        self.refused(Full, deck, ("merge", "a", 0, 1), ("merge", "a", 1, 0))
        self.refused(BadDeed, deck, ("merge", "a", 0, 0), ("merge", "a", 2, 2))
        self.refused(NoTrack, deck, ("merge", "a", 3, 0), ("merge", "a", 0, 3), ("merge", "a", -1, 0),
                     ("merge", "a", 0, -1), ("merge", "a", 3, 3), ("merge", "a", -1, -1), ("merge", "a", FAR, FAR))
        self.refused(NoTape, deck, ("merge", "b", 0, 0), ("merge", "b", 7, 7))
        deck.do(("merge", "a", 0, 2))
        self.assertEqual([len(track) for track in deck.tape("a").tracks()], [200, 100])

    def test_part(self):
        one = [on(0), mark(0), on(1, channel=2), (2, "voice", 1, 5), off(3), off(3, channel=2)]
        deck = with_tracks(one, [on(7)])
        self.makes(deck, ("part", "a", 0, 1), [one[1], one[2], one[5]], [on(7)], [one[0], one[3], one[4]])
        self.makes(deck, ("part", "a", 1, 0), [one[1], one[2], one[5]], [on(7)], [one[0], one[3], one[4]], [])
        self.makes(deck, ("part", "a", 1, 15), [one[1], one[2], one[5]], [on(7)], [one[0], one[3], one[4]], [], [])
        self.refused(BadChannel, deck, *[("part", "a", 0, channel) for channel in (-1, 16, FAR, -FAR)])
        self.refused(NoTrack, deck, ("part", "a", -1, 16), ("part", "a", 5, 0))
        self.refused(NoTape, deck, ("part", "b", -1, 16))
        deck.do(("add", "a"))
        self.refused(Full, deck, ("part", "a", 0, 0))
        self.refused(BadChannel, deck, ("part", "a", 0, 16))


class Beat(Case):
    def test_up_and_down(self):
        deck = with_tracks([on(2), off(4)], [mark(6)], beat=4, paces=[(0, 7), (8, 9)])
        self.makes(deck, ("beat", "a", 6), [on(3), off(6)], [mark(9)])
        self.assertEqual((deck.tape("a").beat(), deck.tape("a").paces()), (6, [(0, 7), (12, 9)]))
        self.makes(deck, ("beat", "a", 6), [on(3), off(6)], [mark(9)])
        self.makes(deck, ("beat", "a", 2), [on(1), off(2)], [mark(3)])

    def test_refused(self):
        deck = with_tracks([on(2), off(4)], [mark(6)], beat=4, paces=[(8, 9)])
        self.refused(BadBeat, deck, *[("beat", "a", beat) for beat in (0, -1, 961, FAR)])
        self.refused(NotWhole, deck, ("beat", "a", 1), ("beat", "a", 3), ("beat", "a", 5))
        self.refused(NoTape, deck, ("beat", "b", 0))

    def test_paces_too(self):
        deck = with_tracks([mark(4)], beat=4, paces=[(3, 9)])
        self.refused(NotWhole, deck, ("beat", "a", 2))
        deck = with_tracks([mark(4)], beat=1, paces=[(500000, 9)])
        self.refused(BadTick, deck, ("beat", "a", 2))
        deck = with_tracks([mark(499999)], beat=1, paces=[(499999, 9)])
        self.makes(deck, ("beat", "a", 2), [mark(999998)])
        self.assertEqual(deck.tape("a").paces(), [(999998, 9)])

    def test_not_whole_goes_ahead_of_bad_tick(self):
        self.refused(NotWhole, with_tracks([mark(999998)], [mark(1)], beat=2), ("beat", "a", 3))
        self.refused(NotWhole, with_tracks([mark(999998)], beat=2, paces=[(1, 5)]), ("beat", "a", 3))
        self.refused(BadTick, with_tracks([mark(4)], [mark(999998)], beat=2, paces=[(2, 5)]), ("beat", "a", 3))

    def test_moments_are_the_same(self):
        deck = with_tracks([on(6), off(48), on(90)], beat=96, paces=[(12, 400000), (60, 16777215)])
        before = deck.tape("a")
        for beat in (16, 960, 80, 96):
            deck.do(("beat", "a", beat))
            told = deck.tape("a")
            self.assertIsNone(unlike(before.tracks()[0], before.paced(), told.tracks()[0], told.paced()))
            for (tick, _), (old, _) in zip(told.paces(), before.paces()):
                self.assertEqual(told.paced().moment(tick), before.paced().moment(old))
        self.assertEqual(deck.tape("a"), before)


class Cut(Case):
    def test_tracks_and_paces(self):
        deck = with_tracks([on(2), off(9)], [mark(5)], [], beat=7, paces=[(3, 8), (5, 9), (8, 4)])
        deck.do(("cut", "a", 5, "b"))
        self.assertEqual(deck.names(), ["a", "b"])
        self.assertEqual(deck.tape("a"), Tape(7, [[on(2), off(5)], [], []], paces=[(3, 8)]))
        self.assertEqual(deck.tape("b"), Tape(7, [[on(0), off(4)], [mark(0)], []], paces=[(0, 9), (3, 4)]))

    def test_the_pace_at_the_tick(self):
        for tick, own, theirs in [(0, [], [(0, 500000), (3, 8), (5, 9)]), (2, [], [(0, 500000), (1, 8), (3, 9)]),
                                  (3, [], [(0, 8), (2, 9)]), (4, [(3, 8)], [(0, 8), (1, 9)]),
                                  (5, [(3, 8)], [(0, 9)]), (999999, [(3, 8), (5, 9)], [(0, 9)])]:
            deck = with_tracks([], paces=[(3, 8), (5, 9)])
            deck.do(("cut", "a", tick, "b"))
            self.assertEqual((deck.tape("a").paces(), deck.tape("b").paces()), (own, theirs))
        deck = deck_of(("new", "a", 96), ("cut", "a", 5, "b"))
        self.assertEqual((deck.tape("a"), deck.tape("b")), (Tape(96), Tape(96, paces=[(0, 500000)])))

    def test_at_nought(self):
        deck = with_tracks([on(2), off(9)], paces=[(0, 5)])
        deck.do(("cut", "a", 0, "b"))
        self.assertEqual(deck.tape("a"), Tape())
        self.assertEqual(deck.tape("b"), Tape(96, [[on(2), off(9)]], paces=[(0, 5)]))

    def test_refused(self):
        deck = with_tracks([on(2), off(9)])
        deck.do(("new", "b", 1))
        self.refused(NoTape, deck, ("cut", "c", -1, "A"))
        self.refused(BadTick, deck, *[("cut", "a", tick, name) for tick in NO_TICKS for name in ("c", "A", "b")])
        self.refused(BadName, deck, ("cut", "a", 5, ""), ("cut", "a", 5, "C"), ("cut", "a", 5, "toolonger"))
        self.refused(Taken, deck, ("cut", "a", 5, "a"), ("cut", "a", 5, "b"))

    def test_full_of_tapes(self):
        deck = with_tracks([on(2), off(9)])
        for name in "bcde":
            deck.do(("new", name, 1))
        deck.do(("cut", "a", 5, "f"))
        self.assertEqual(len(deck), 6)
        self.refused(Full, deck, ("cut", "a", 5, "g"))
        self.refused(Taken, deck, ("cut", "a", 5, "f"))
        self.refused(BadName, deck, ("cut", "a", 5, "F"))
        self.refused(BadTick, deck, ("cut", "a", -5, "F"))

    def test_full_of_paces(self):
        deck = with_tracks([], paces=[(tick, 5) for tick in range(10, 30)])
        self.refused(Full, deck, ("cut", "a", 9, "b"), ("cut", "a", 0, "b"))
        self.refused(Taken, deck, ("cut", "a", 9, "a"))
        deck.do(("cut", "a", 10, "b"))
        self.assertEqual(deck.tape("b").paces(), [(tick, 5) for tick in range(20)])

    def test_full_of_events(self):
        notes = [on(0, key) for key in range(100)]
        deck = with_tracks([], notes + [mark(0)], notes)
        self.refused(Full, deck, ("cut", "a", 5, "b"))
        deck.do(("cut", "a", 0, "b"))
        deck.do(("take", "b", 1, 100))
        deck.do(("cut", "b", 1, "c"))
        self.assertEqual([[len(track) for track in deck.tape(name).tracks()] for name in "abc"],
                         [[0, 0, 0], [0, 200, 200], [0, 100, 100]])

    def test_it_goes_on_in_the_second_piece(self):
        chance = random.Random(101)
        for _ in range(40):
            tracks = [wide_track(chance, chance.randint(0, 15), most_step=9) for _ in range(2)]
            tracks = [[(event[0] % 1000 + 50, *event[1:]) for event in track] for track in tracks]
            tracks = [sorted(track, key=lambda event: event[0]) for track in tracks]
            deck = with_tracks(*tracks, paces=[(chance.randint(0, 200), chance.randint(1, 999)) for _ in range(4)])
            whole, tick = deck.tape("a"), chance.randint(0, 300)
            deck.do(("cut", "a", tick, "b"))
            first, second = deck.tape("a"), deck.tape("b")
            again = Map(96, first.paces() + [(at + tick, pace) for at, pace in second.paces()])
            for old, one, two in zip(whole.tracks(), first.tracks(), second.tracks()):
                self.assertIsNone(unlike(old, whole.paced(), glued(one, two, tick), again))


class BadDeeds(Case):
    def test_what_is_no_deed(self):
        deck = with_tracks([on(2), off(9)])
        good = [("new", "b", 96), ("drop", "a"), ("add", "a"), ("put", "a", 0, on(0)), ("take", "a", 0, 0),
                ("pace", "a", 0, 5), ("unpace", "a", 0), ("later", "a", 0, 1), ("keyed", "a", 0, 1),
                ("even", "a", 0, 4, 0, 100), ("cure", "a", 0), ("merge", "a", 0, 1), ("part", "a", 0, 1),
                ("beat", "a", 192), ("cut", "a", 5, "b")]
        self.assertEqual(len({deed[0] for deed in good}), 15)
        self.refused(BadDeed, deck, (), ("zap",), ("zap", "a"), ("",), ("undo",), ("New", "b", 96), ("all", 2),
                     ("zap", "b", -1))
        for deed in good:
            self.refused(BadDeed, deck, deed[:-1], deed + (0,), deed[:1], deed + deed)

    def test_bad_deed_goes_first(self):
        self.refused(BadDeed, Deck(), ("new", "BAD"), ("drop", "a", 5), ("put", "a", 0), ("cut", "a", 5),
                     ("merge", "a", 0), ("even", "a", 0, 0, 0), ("new", "BAD", 0, 0))


class Undone(Case):
    def test_one_by_one(self):
        deck = deck_of(("new", "a", 96), ("put", "a", 0, on(0)), ("drop", "a"))
        self.assertEqual(deck.deeds(), [[("new", "a", 96)], [("put", "a", 0, on(0))], [("drop", "a")]])
        self.assertEqual(deck.undo(), [("drop", "a")])
        self.assertEqual(deck.tape("a"), Tape(96, [[on(0)]]))
        self.assertEqual(deck.undo(), [("put", "a", 0, on(0))])
        self.assertEqual((deck.tape("a"), deck.deeds()), (Tape(96), [[("new", "a", 96)]]))
        self.assertEqual(deck.redo(), [("put", "a", 0, on(0))])
        self.assertEqual(deck.redo(), [("drop", "a")])
        self.assertEqual((deck.names(), len(deck.deeds())), ([], 3))
        self.assertRaises(NothingLeft, deck.redo)

    def test_nothing_left(self):
        deck = Deck()
        self.assertRaises(NothingLeft, deck.undo)
        self.assertRaises(NothingLeft, deck.redo)
        deck.do(("new", "a", 96))
        self.assertRaises(NothingLeft, deck.redo)
        deck.undo()
        self.assertRaises(NothingLeft, deck.undo)
        self.assertEqual((deck.names(), deck.busy(), deck.fresh()), ([], False, []))

    def test_a_row(self):
        deck = deck_of(("new", "a", 96))
        row = [("put", "a", 0, on(0)), ("add", "a"), ("put", "a", 1, on(5))]
        self.assertIsNone(deck.do_all(deeds=row))
        self.assertEqual(deck.deeds(), [[("new", "a", 96)], row])
        self.assertEqual(deck.undo(), row)
        self.assertEqual(deck.tape("a"), Tape(96))
        self.assertEqual(deck.redo(), row)
        self.assertEqual(deck.tape("a"), Tape(96, [[on(0)], [on(5)]]))
        deck.do_all((("add", "a"),))
        self.assertEqual(deck.deeds()[-1], [("add", "a")])

    def test_all_or_none(self):
        deck = deck_of(("new", "a", 96), ("add", "a"))
        deck.undo()
        before = (tapes_of(deck), deck.deeds(), deck.fresh())
        for error, row in [
            (NoTrack, [("put", "a", 0, on(0)), ("put", "a", 1, on(0)), ("zap",)]),
            (BadDeed, [("zap",), ("put", "a", 1, on(0))]),
            (NoTape, [("drop", "a"), ("add", "a")]),
            (Full, [("add", "a")] * 6),
            (Taken, [("new", "b", 1), ("new", "b", 0)]),
        ]:
            self.assertRaises(error, deck.do_all, row)
            self.assertEqual((tapes_of(deck), deck.deeds(), deck.fresh()), before)
            self.assertFalse(deck.busy())
        self.assertEqual(deck.redo(), [("add", "a")])

    def test_an_empty_row_does_nothing(self):
        deck = deck_of(("new", "a", 96), ("add", "a"))
        deck.undo()
        fresh = deck.fresh()
        for row in ([], ()):
            self.assertIsNone(deck.do_all(row))
        self.assertEqual((deck.fresh(), deck.deeds()), (fresh, [[("new", "a", 96)]]))
        self.assertEqual(deck.redo(), [("add", "a")])

    def test_till_another_is_done(self):
        deck = deck_of(("new", "a", 96), ("add", "a"))
        deck.undo()
        deck.do(("new", "b", 1))
        self.assertRaises(NothingLeft, deck.redo)
        self.assertEqual(deck.undo(), [("new", "b", 1)])
        self.assertEqual(deck.names(), ["a"])

    def test_refused_ones_leave_it(self):
        deck = deck_of(("new", "a", 96), ("add", "a"))
        deck.undo()
        self.refused(NoTape, deck, ("drop", "b"))
        self.assertEqual(deck.redo(), [("add", "a")])

    def test_lists_may_be_changed(self):
        deck, row = deck_of(("new", "a", 96)), [("add", "a"), ("add", "a")]
        deck.do_all(row)
        row.clear()
        deck.deeds().clear()
        deck.deeds()[1].clear()
        deck.undo().clear()
        deck.redo().clear()
        deck.names().clear()
        deck.fresh().clear()
        self.assertEqual(deck.undo(), [("add", "a"), ("add", "a")])
        self.assertEqual((deck.names(), deck.deeds()), (["a"], [[("new", "a", 96)]]))
        self.assertEqual(deck.redo(), [("add", "a"), ("add", "a")])
        self.assertEqual(deck.fresh(), [("a", 1), ("a", 2)])

    def test_deeds_that_undo_one_another(self):
        tracks = [[on(0), on(4, channel=2), off(8), off(9, channel=2)], [mark(5)]]
        deck = with_tracks(*tracks, paces=[(5, 7)])
        before = deck.tape("a")
        for row in (
            [("later", "a", 0, 7), ("later", "a", 0, -7)], [("keyed", "a", 0, 7), ("keyed", "a", 0, -7)],
            [("add", "a"), ("merge", "a", 0, 2)], [("part", "a", 0, 2), ("merge", "a", 0, 2)],
            [("beat", "a", 960), ("beat", "a", 96)], [("pace", "a", 9, 9), ("unpace", "a", 9)],
            [("put", "a", 1, mark(5)), ("take", "a", 1, 1)], [("pace", "a", 5, 9), ("pace", "a", 5, 7)],
        ):
            deck.do_all(row)
            self.assertEqual(deck.tape("a"), before)
            self.assertEqual(deck.fresh(), [])


class Fresh(Case):
    def test_each_deed(self):
        tracks = [[on(1), off(5)], [mark(5)], [on(9, channel=2)]]
        for deed, fresh in [
            (("new", "b", 96), [("b", 0)]), (("drop", "a"), []), (("add", "a"), [("a", 3)]),
            (("put", "a", 1, mark(6)), [("a", 1)]), (("take", "a", 2, 0), [("a", 2)]), (("pace", "a", 5, 5), []),
            (("later", "a", 0, 1), [("a", 0)]), (("later", "a", 0, 0), []), (("keyed", "a", 1, 1), []),
            (("even", "a", 0, 5, 0, 100), [("a", 0)]), (("even", "a", 0, 5, 0, 0), []), (("cure", "a", 0), []),
            (("cure", "a", 2), [("a", 2)]), (("merge", "a", 1, 0), [("a", 0), ("a", 1)]),
            (("merge", "a", 0, 2), [("a", 0)]), (("part", "a", 0, 1), [("a", 0), ("a", 3)]),
            (("part", "a", 0, 2), [("a", 3)]), (("beat", "a", 192), [("a", 0), ("a", 1), ("a", 2)]),
            (("cut", "a", 6, "b"), [("a", 2), ("b", 0), ("b", 1), ("b", 2)]),
        ]:
            deck = with_tracks(*tracks)
            deck.do(deed)
            self.assertEqual(deck.fresh(), fresh, deed)

    def test_taken_back_and_done_again(self):
        deck = deck_of(("new", "a", 96), ("new", "b", 96), ("put", "b", 0, on(0)))
        self.assertEqual(deck.fresh(), [("b", 0)])
        deck.undo()
        self.assertEqual(deck.fresh(), [("b", 0)])
        deck.undo()
        self.assertEqual(deck.fresh(), [])
        deck.redo()
        self.assertEqual(deck.fresh(), [("b", 0)])
        deck.do_all([("drop", "a"), ("new", "a", 96), ("add", "a")])
        self.assertEqual(deck.fresh(), [("a", 1)])
        deck.do_all([("drop", "b"), ("new", "b", 7)])
        self.assertEqual(deck.fresh(), [])
        deck.do(("put", "b", 0, on(0)))
        deck.do_all([("drop", "b"), ("new", "b", 7)])
        self.assertEqual(deck.fresh(), [("b", 0)])

    def test_rising(self):
        deck = Deck()
        deck.do_all([("new", name, 1) for name in ("c", "a", "b")] + [("add", "b"), ("add", "c")])
        self.assertEqual(deck.fresh(), [("a", 0), ("b", 0), ("b", 1), ("c", 0), ("c", 1)])


class Twins(Case):
    def test_alike(self):
        deck = deck_of(("new", "a", 96), ("new", "b", 96), ("add", "a"))
        deck.undo()
        deck.undo()
        twin = deck.twin()
        self.assertIsInstance(twin, Deck)
        self.assertTrue(twin == deck)
        self.assertEqual((twin.deeds(), twin.fresh(), twin.busy()), (deck.deeds(), deck.fresh(), False))
        self.assertEqual((twin.redo(), twin.fresh()), ([("new", "b", 96)], [("b", 0)]))
        self.assertEqual(twin.redo(), [("add", "a")])
        self.assertEqual([twin.undo() for _ in range(3)], [[("add", "a")], [("new", "b", 96)], [("new", "a", 96)]])

    def test_what_is_fresh(self):
        deck = deck_of(("new", "b", 1), ("new", "a", 96), ("put", "a", 0, on(0)))
        self.assertEqual(deck.twin().fresh(), [("a", 0)])
        deck.do(("pace", "a", 0, 1))
        self.assertEqual(deck.twin().fresh(), [])

    def test_nothing_to_do_with_one_another(self):
        deck = deck_of(("new", "a", 96), ("new", "b", 96))
        deck.undo()
        twin = deck.twin()
        deck.do(("add", "a"))
        self.assertEqual((twin.tape("a"), twin.deeds(), twin.fresh()), (Tape(96), [[("new", "a", 96)]], []))
        self.assertEqual(twin.redo(), [("new", "b", 96)])
        self.assertEqual((deck.names(), deck.fresh()), (["a"], [("a", 1)]))
        self.assertRaises(NothingLeft, deck.redo)
        twin.undo()
        twin.undo()
        self.assertEqual((len(twin), len(deck)), (0, 1))

    def test_done_again_by_one_of_them(self):
        deck = deck_of(("new", "a", 96), ("add", "a"))
        deck.undo()
        twin = deck.twin()
        for _ in range(2):
            self.assertEqual(twin.redo(), [("add", "a")])
            self.assertEqual(deck.redo(), [("add", "a")])
            self.assertEqual((twin.undo(), deck.undo()), ([("add", "a")], [("add", "a")]))
        twin.undo()
        self.assertEqual((deck.undo(), deck.redo()), ([("new", "a", 96)], [("new", "a", 96)]))

    def test_two_decks(self):
        one, other = Deck(), Deck()
        one.do(("new", "a", 96))
        self.assertEqual((other.names(), other.deeds(), other.fresh()), ([], [], []))

    def test_tapes_have_nothing_to_do_with_the_deck(self):
        deck = with_tracks([on(0)], paces=[(5, 5)])
        tape = deck.tape("a")
        deck.do(("put", "a", 0, on(1)))
        deck.do(("unpace", "a", 5))
        self.assertEqual(tape, Tape(96, [[on(0)]], paces=[(5, 5)]))
        tape.tracks()[0].clear()
        tape.paced().put(1, 1)
        self.assertEqual(deck.tape("a"), Tape(96, [[on(0), on(1)]]))

    def test_alike_however_they_came_about(self):
        one = deck_of(("new", "a", 96), ("new", "b", 1))
        other = deck_of(("new", "b", 1), ("new", "c", 1), ("drop", "c"), ("new", "a", 96))
        self.assertTrue(one == other)
        self.assertFalse(one != other)
        self.assertTrue(Deck() == Deck())
        for deed in (("add", "a"), ("pace", "a", 0, 500000), ("drop", "a"), ("new", "c", 1), ("beat", "b", 2)):
            other = one.twin()
            other.do(deed)
            self.assertFalse(one == other)
            self.assertTrue(one != other)
        for other in (None, 0, [], {}, Deck, mock.ANY, object(), Tape()):
            self.assertIs(Deck() == other, False)


class Many(Case):
    def test_as_the_plain_one(self):
        chance = random.Random(102)
        done, refusals = 0, set()
        for _ in range(120):
            deck, tapes, names = Deck(), {}, chance.sample(["a", "b", "c", "d", "e", "f", "g"], chance.randint(1, 7))
            for name in names[:2]:
                deck.do(("new", name, 4))
                tapes = plain_do(tapes, ("new", name, 4))
            for _ in range(120):
                row = [chance_deed(chance, names) for _ in range(chance.choice([0, 1, 1, 1, 1, 2, 3]))]
                fresh, after, told = deck.fresh(), tapes, None
                try:
                    for deed in row:
                        after = plain_do(after, deed)
                except Refused as refusal:
                    after, told = tapes, str(refusal)
                try:
                    deck.do_all(row)
                    self.assertIsNone(told, row)
                    done += len(row)
                except (TapeError, MissingError) as error:
                    self.assertEqual(error.called, told, row)
                    refusals.add(told)
                self.assertEqual(tapes_of(deck), after, row)
                if row and told is None:
                    fresh = fresh_between(tapes, after)
                self.assertEqual(deck.fresh(), fresh)
                self.assertEqual((deck.names(), len(deck)), (sorted(after), len(after)))
                tapes = after
        self.assertGreater(done, 2000)
        self.assertEqual(refusals, {"badbeat", "badchannel", "baddeed", "badevent", "badgrid", "badkey", "badname",
                                    "badpace", "badtick", "full", "noevent", "nopace", "notape", "notrack", "notwhole",
                                    "taken"})

    def test_doings_takings_back_and_doings_again(self):
        chance = random.Random(103)
        for _ in range(40):
            deck, names = Deck(), ["a", "b", "c"]
            stands, at, rows = [{}], 0, []
            for _ in range(80):
                asked, before, fresh = chance.choice(["do", "do", "undo", "redo"]), stands[at], deck.fresh()
                if asked == "do":
                    row = [chance_deed(chance, names) for _ in range(chance.randint(0, 3))]
                    try:
                        deck.do_all(row)
                    except (TapeError, MissingError):
                        row = []
                    if row:
                        del stands[at + 1:], rows[at:]
                        rows.append(row)
                        stands.append(tapes_of(deck))
                        at += 1
                        fresh = fresh_between(before, stands[at])
                elif asked == "undo" and at == 0:
                    self.assertRaises(NothingLeft, deck.undo)
                elif asked == "redo" and at == len(rows):
                    self.assertRaises(NothingLeft, deck.redo)
                else:
                    at += 1 if asked == "redo" else -1
                    self.assertEqual(getattr(deck, asked)(), rows[at - 1 if asked == "redo" else at])
                    fresh = fresh_between(before, stands[at])
                self.assertEqual((tapes_of(deck), deck.fresh(), deck.deeds()), (stands[at], fresh, rows[:at]))
                if chance.random() < 0.1:
                    deck = deck.twin()

    def test_large(self):
        deck = full_deck()
        self.assertEqual([len(deck.tape(name)) for name in "abcdef"], [1190] * 6)
        for _ in range(10):
            deck.do_all([("put", "a", 0, mark(tick)) for tick in range(10)] + [("take", "a", 0, 0)] * 10
                        + [("pace", name, 7, 5) for name in "abcdef"] + [("later", name, 5, 1) for name in "abcdef"])
            deck.undo()
            deck.redo()
            self.assertEqual(deck.fresh()[-1], ("f", 5))
        self.assertTrue(deck.twin() == deck)


if __name__ == "__main__":
    unittest.main()
