"""Promise [1] over the whole program: names of arguments, what is handed in, told and refused, and how objects differ."""

import copy
import importlib
import inspect
import unittest

from reedtapes import deck, desk, errors, events, feeder, gaps, grids, heads, maps, notes, pages, player, sound, stands
from reedtapes import tape, tracks

TRACK = [(0, "on", 1, 60, 100), (0, "voice", 1, 5), (4, "knob", 2, 7, 9), (6, "off", 1, 60, 64), (6, "mark", "a b"),
         (8, "on", 1, 61, 3)]
OTHER = [(2, "off", 3, 1, 64), (8, "mark", "")]
FAR = 10 ** 29

SIGNATURES = {
    "gaps": ["gap_bytes(number)", "gap_read(row, at=0)"],
    "events": ["is_event(event)", "need_track(track)", "later(track, by)", "keyed(track, by)", "put_in(track, event)"],
    "heads": ["written(track)", "cost(track)", "prices(track)", "thrifty(track)"],
    "feeder": ["read_track(row)", "Feeder()", "Feeder.feed(self, row)", "Feeder.events(self)", "Feeder.closed(self)",
               "Feeder.finish(self)", "Feeder.busy(self)"],
    "maps": ["share(top, bottom)", "Map(beat, paces=())", "Map.put(self, tick, pace)", "Map.drop(self, tick)",
             "Map.beat(self)", "Map.paces(self)", "Map.pace_at(self, tick)", "Map.moment(self, tick)",
             "Map.tick_of(self, moment)", "Map.near(self, moment)", "Map.twin(self)"],
    "notes": ["notes(track)", "lone(track)", "hung(track)", "over(track)", "cured(track, *, until=None)"],
    "stands": ["Stand()", "Stand.after(self, thing)", "Stand.sounds(self)", "Stand.knobs(self)", "Stand.voices(self)",
               "stand_at(track, tick)"],
    "player": ["Player(track, *, every=16)", "Player.tick(self)", "Player.play(self, tick)", "Player.leap(self, tick)",
               "Player.stand(self)", "Player.heard(self, tick)", "Player.walked(self)", "Player.twin(self)"],
    "sound": ["unlike(track, own, other, theirs)"],
    "tracks": ["merged(tracks)", "parted(rows, many)", "apart(track, channel)", "cut(track, tick)",
               "glued(track, other, tick)", "at_beat(track, beat, other)", "least_beat(tracks, beat)"],
    "grids": ["Grid(step, *, swing=0, share=100)", "Grid.line(self, tick)", "Grid.moved(self, tick)",
              "evened(track, grid)", "unevened(track, olds)", "mapped(track, old, new)"],
    "tape": ["Tape(beat=96, tracks=((),), *, paces=())", "Tape.beat(self)", "Tape.tracks(self)", "Tape.paces(self)",
             "Tape.paced(self)", "tape_bytes(tape)", "read_tape(row)"],
    "deck": ["Deck()", "Deck.do(self, deed)", "Deck.do_all(self, deeds)", "Deck.undo(self)", "Deck.redo(self)",
             "Deck.deeds(self)", "Deck.names(self)", "Deck.tape(self, name)", "Deck.fresh(self)", "Deck.busy(self)",
             "Deck.twin(self)"],
    "pages": ["deed_row(deed)", "read_deed(text)", "page(deck)", "read_page(text)"],
    "desk": ["Desk(deck=None)", "Desk.deck(self)", "Desk.say(self, line)"],
}


def a_deck():
    told = deck.Deck()
    told.do(("new", "a", 96))
    told.do_all([("put", "a", 0, event) for event in TRACK] + [("add", "a"), ("pace", "a", 4, 7)])
    told.do(("new", "b", 7))
    told.undo()
    return told


def a_player():
    told = player.Player(TRACK, every=2)
    told.play(4)
    return told


def fed(*rows):
    told = feeder.Feeder()
    for row in rows:
        told.feed(row)
    return told


LED, THEIR = maps.Map(4, [(2, 7)]), maps.Map(8)
# Each question as a function and what is handed to it.
ASKED = [
    (gaps.gap_bytes, 300), (gaps.gap_read, [0, 130, 44], 1), (events.is_event, TRACK[0]), (events.need_track, TRACK),
    (events.later, TRACK, 5), (events.keyed, TRACK, 5), (events.put_in, TRACK, (4, "mark", "")), (heads.written, TRACK),
    (heads.cost, TRACK), (heads.prices, TRACK), (heads.thrifty, TRACK), (feeder.read_track, heads.written(TRACK)),
    (maps.share, 6, 4), (maps.Map, 4, [(2, 7)]), (notes.notes, TRACK), (notes.lone, OTHER), (notes.hung, TRACK),
    (notes.over, TRACK), (notes.cured, TRACK), (stands.stand_at, TRACK, 4), (player.Player, TRACK),
    (sound.unlike, TRACK, LED, OTHER, THEIR), (tracks.merged, [TRACK, OTHER]),
    (tracks.parted, [(1, TRACK[0]), (0, TRACK[1])], 2), (tracks.apart, TRACK, 1), (tracks.cut, TRACK, 4),
    (tracks.glued, TRACK, OTHER, 9), (tracks.at_beat, TRACK, 4, 2), (tracks.least_beat, [TRACK, OTHER], 4),
    (grids.evened, TRACK, grids.Grid(3)), (grids.unevened, TRACK, [1, 2, 3, 4, 5, 6]), (grids.mapped, TRACK, LED, THEIR),
    (tape.Tape, 4, [TRACK, OTHER]), (tape.tape_bytes, tape.Tape(4, [TRACK, OTHER], paces=[(2, 7)])),
    (tape.read_tape, tape.tape_bytes(tape.Tape(4, [TRACK]))), (pages.deed_row, ("put", "a", 0, TRACK[4])),
    (pages.read_deed, "put a 0 5 mark x"), (pages.page, a_deck()), (pages.read_page, pages.page(a_deck())),
]
# Each question that an object is asked.
OBJECTS = [
    (fed(heads.written(TRACK)), [("events",), ("closed",), ("finish",), ("busy",)]),
    (maps.Map(4, [(2, 7)]), [("beat",), ("paces",), ("pace_at", 2), ("moment", 5), ("tick_of", (6, 4)), ("near", (6, 4)),
                             ("twin",)]),
    (stands.stand_at(TRACK, 5), [("sounds",), ("knobs",), ("voices",), ("after", ("on", 1, 60, 1))]),
    (a_player(), [("tick",), ("stand",), ("heard", 6)]),
    (grids.Grid(10, swing=3), [("line", 12), ("moved", 12)]),
    (tape.Tape(4, [TRACK, OTHER], paces=[(2, 7)]), [("beat",), ("tracks",), ("paces",), ("paced",)]),
    (a_deck(), [("deeds",), ("names",), ("tape", "a"), ("fresh",), ("busy",), ("twin",)]),
    (desk.Desk(a_deck()), [("deck",), ("say", "names"), ("say", "bytes a"), ("say", "zap")]),
]


def plain(thing):
    """All that can be seen of a thing, as plain values."""
    if isinstance(thing, (list, tuple)):
        return type(thing)(plain(part) for part in thing)
    if isinstance(thing, maps.Map):
        return "map", thing.beat(), thing.paces()
    if isinstance(thing, stands.Stand):
        return "stand", thing.sounds(), thing.knobs(), thing.voices()
    if isinstance(thing, player.Player):
        return "player", thing.tick()
    if isinstance(thing, tape.Tape):
        return "tape", thing.beat(), thing.tracks(), thing.paces()
    if isinstance(thing, deck.Deck):
        return "deck", [(name, plain(thing.tape(name))) for name in thing.names()], thing.deeds(), thing.fresh()
    return thing


def spoil(thing):
    """Change each list that a thing holds."""
    if isinstance(thing, (list, tuple)):
        for part in thing:
            spoil(part)
    if isinstance(thing, list):
        thing.append("spoilt")
        thing.reverse()


class Names(unittest.TestCase):
    def test_each_argument_has_its_name(self):
        for file, texts in SIGNATURES.items():
            module = importlib.import_module("reedtapes." + file)
            for text in texts:
                word, arguments = text[:text.index("(")], text[text.index("("):]
                thing = module
                for part in word.split("."):
                    thing = getattr(thing, part)
                self.assertEqual(str(inspect.signature(thing)), arguments, text)
                self.assertEqual(thing.__module__, module.__name__, text)

    def test_by_name_and_in_order(self):
        for asked, *things in ASKED:
            names = list(inspect.signature(asked).parameters)
            self.assertEqual(plain(asked(**dict(zip(names, things)))), plain(asked(*things)), asked)
        for thing, questions in OBJECTS:
            for word, *things in questions:
                asked = getattr(thing, word)
                names = list(inspect.signature(asked).parameters)
                self.assertEqual(plain(asked(**dict(zip(names, things)))), plain(asked(*things)), word)

    def test_by_its_name_alone(self):
        for asked, *things in [(notes.cured, TRACK, 99), (player.Player, TRACK, 2), (grids.Grid, 10, 3),
                               (grids.Grid, 10, 3, 50), (tape.Tape, 96, [TRACK], [(0, 5)])]:
            self.assertRaises(TypeError, asked, *things)

    def test_the_values(self):
        self.assertEqual((gaps.MOST_GAP, maps.USUAL, player.EVERY), (268435455, 500000, 16))


class Questions(unittest.TestCase):
    def test_nothing_that_is_handed_in_is_changed(self):
        for asked, *things in ASKED:
            before = plain(copy.deepcopy(things))
            told = asked(*things)
            self.assertEqual(plain(things), before, asked)
            spoil(told)
            self.assertEqual(plain(things), before, asked)

    def test_the_same_is_told_again(self):
        for asked, *things in ASKED:
            before = plain(asked(*things))
            spoil(asked(*things))
            self.assertEqual(plain(asked(*things)), before, asked)

    def test_objects_keep_copies(self):
        for asked, *things in ASKED:
            handed = copy.deepcopy(things)
            told = asked(*handed)
            before = plain(copy.deepcopy(told))
            spoil(handed)
            self.assertEqual(plain(told), before, asked)

    def test_objects_are_not_changed_by_questions(self):
        for thing, questions in OBJECTS:
            before = [plain(copy.deepcopy(getattr(thing, word)(*things))) for word, *things in questions]
            for _ in range(2):
                for word, *things in questions:
                    spoil(getattr(thing, word)(*things))
            self.assertEqual([plain(getattr(thing, word)(*things)) for word, *things in questions], before)


class Refusals(unittest.TestCase):
    WRONG = ["BadNumber", "BadEvent", "BadTrack", "BadBytes", "BadBeat", "BadPace", "BadTick", "BadMoment", "BadKey",
             "BadGrid", "BadChannel", "BadPaper", "BadName", "Taken", "Full", "NotWhole", "BadDeed", "BadPage",
             "NothingLeft"]
    MISSING = ["NoTape", "NoTrack", "NoEvent", "NoPace"]
    # For each class of refusal something that is refused so.
    CAUSES = [
        ("BadNumber", gaps.gap_bytes, -1), ("BadNumber", gaps.gap_bytes, 2 ** 28), ("BadEvent", events.put_in, [], ()),
        ("BadTrack", events.need_track, [(5,)]), ("BadBytes", gaps.gap_read, [128]), ("BadBytes", feeder.read_track, []),
        ("BadBytes", tape.read_tape, []), ("BadBeat", maps.Map, 0), ("BadBeat", tape.Tape, 0),
        ("BadPace", maps.Map, 1, [(0, 0)]), ("BadTick", stands.stand_at, [], -1), ("BadTick", tracks.cut, [], -1),
        ("BadMoment", LED.tick_of, (-1, 1)), ("BadMoment", LED.near, (1, 0)), ("BadKey", events.keyed, TRACK, FAR),
        ("BadGrid", grids.Grid, 0), ("BadChannel", a_deck().do, ("part", "a", 0, 16)),
        ("BadPaper", grids.unevened, [], [1]), ("BadName", a_deck().do, ("new", "A", 0)),
        ("Taken", a_deck().do, ("new", "a", 0)), ("Full", tape.Tape, 96, []), ("Full", tracks.glued, TRACK * 40, [], 999),
        ("NotWhole", tracks.at_beat, TRACK, 4, 1), ("BadDeed", a_deck().do, ()), ("BadPage", pages.read_deed, ""),
        ("BadPage", pages.read_page, "\n"), ("NothingLeft", deck.Deck().undo), ("NothingLeft", deck.Deck().redo),
        ("NoTape", a_deck().tape, "b"), ("NoTrack", tracks.parted, [(0, TRACK[0])], 0),
        ("NoEvent", a_deck().do, ("take", "a", 0, 6)), ("NoPace", maps.Map(1).drop, 0),
    ]

    def test_each_class_by_itself(self):
        for names, base, outer in [(self.WRONG, errors.TapeError, ValueError),
                                   (self.MISSING, errors.MissingError, LookupError)]:
            self.assertEqual(base.__bases__, (outer,))
            for name in names:
                self.assertEqual(getattr(errors, name).__bases__, (base,))

    def test_each_is_raised_with_its_fields(self):
        self.assertEqual({cause[0] for cause in self.CAUSES}, set(self.WRONG + self.MISSING))
        for name, asked, *things in self.CAUSES:
            before = plain(copy.deepcopy(things))
            for _ in range(2):
                with self.assertRaises(getattr(errors, name)) as caught:
                    asked(*things)
                error = caught.exception
                self.assertIs(type(error), getattr(errors, name))
                self.assertEqual(error.called, name.lower())
                self.assertEqual(hasattr(error, "at"), name in ("BadTrack", "BadBytes", "NotWhole"))
                self.assertEqual(hasattr(error, "row"), name == "BadPage")
            self.assertEqual(plain(things), before)


class Together(unittest.TestCase):
    def test_from_lines_to_bytes_and_back(self):
        clerk = desk.Desk()
        for event in TRACK:
            clerk.say("new a 96")
            self.assertEqual(clerk.say(pages.deed_row(("put", "a", 0, event))), "done")
        row = [int(word) for word in clerk.say("bytes a").split()]
        self.assertEqual(tape.read_tape(row), tape.Tape(96, [TRACK]))
        self.assertEqual(pages.read_page(pages.page(clerk.deck())), clerk.deck())

    def test_a_thrifty_track_sounds_alike_and_takes_no_more(self):
        track = heads.thrifty(TRACK)
        self.assertIsNone(sound.unlike(TRACK, LED, track, LED))
        self.assertLessEqual(heads.cost(track), heads.cost(TRACK))
        self.assertEqual(feeder.read_track(heads.written(track)), track)

    def test_a_player_leaps_as_the_stands_say(self):
        one = player.Player(TRACK)
        told = stands.Stand()
        for tick in (0, 6, 4, 8, 2):
            for thing in one.leap(tick):
                told = told.after(thing)
            self.assertEqual(told, stands.stand_at(TRACK, tick))

    def test_merged_and_parted(self):
        self.assertEqual(tracks.parted(tracks.merged([TRACK, OTHER, []]), 3), [TRACK, OTHER, []])

    def test_mapped_there_and_back(self):
        finer = maps.Map(8, [(4, 7)])
        told, offs = grids.mapped(TRACK, LED, finer)
        self.assertEqual(offs, [(0, 1)] * len(TRACK))
        self.assertEqual(told, tracks.at_beat(TRACK, 4, 8))
        self.assertIsNone(sound.unlike(TRACK, LED, told, finer))
        self.assertEqual(grids.mapped(told, finer, LED)[0], TRACK)


if __name__ == "__main__":
    unittest.main()
