"""Promise [22]: lines, and what a desk answers."""

import random
import unittest

from plain_deck import Refused, chance_deed, plain_do, tapes_of
from plain_pages import plain_deed
from reedtapes.deck import Deck
from reedtapes.desk import Desk
from reedtapes.pages import deed_row
from reedtapes.tape import Tape, tape_bytes


def desk_of(*lines):
    """A desk to which these lines were said, each done."""
    desk = Desk()
    for line in lines:
        assert desk.say(line) == "done", line
    return desk


SONG = ("new a 96", "add a", "put a 0 0 on 1 60 100", "put a 0 0 on 0 72 5", "put a 0 0 on 1 60 9",
        "put a 0 48 off 1 60 64", "put a 1 5 mark  x ", "pace a 48 250000")


class Case(unittest.TestCase):
    def says(self, desk, *pairs):
        for line, told in pairs:
            self.assertEqual(desk.say(line), told, line)

    def leaves(self, desk, told, *lines):
        """Each line is answered so, and changes nothing."""
        deck = desk.deck()
        before = (tapes_of(deck), deck.deeds(), deck.fresh())
        for line in lines:
            self.assertEqual(desk.say(line), told, line)
            self.assertEqual((tapes_of(deck), deck.deeds(), deck.fresh()), before, line)


class Decks(Case):
    def test_the_very_deck(self):
        deck = Deck()
        for desk in (Desk(deck), Desk(deck=deck)):
            self.assertIs(desk.deck(), deck)
        deck.do(("new", "a", 96))
        self.assertEqual(desk.say(line="names"), "a")
        desk.say("new b 96")
        self.assertEqual(deck.names(), ["a", "b"])

    def test_a_new_one(self):
        one, other = Desk(), Desk(None)
        self.assertIsInstance(one.deck(), Deck)
        self.assertIs(one.deck(), one.deck())
        self.assertIsNot(one.deck(), other.deck())
        one.say("new a 96")
        self.says(other, ("names", "none"), ("undo", "refused nothingleft"))

    def test_two_desks_of_one_deck(self):
        deck = Deck()
        one, other = Desk(deck), Desk(deck)
        self.says(one, ("new a 96", "done"))
        self.says(other, ("names", "a"), ("undo", "done"), ("undo", "refused nothingleft"))
        self.says(one, ("names", "none"), ("redo", "done"))
        self.says(other, ("names", "a"))


class Deeds(Case):
    def test_done(self):
        desk = desk_of(*SONG)
        self.assertEqual(desk.deck().tape("a"), Tape(
            96, [[(0, "on", 1, 60, 100), (0, "on", 0, 72, 5), (0, "on", 1, 60, 9), (48, "off", 1, 60, 64)],
                 [(5, "mark", " x ")]], paces=[(48, 250000)]))
        self.assertEqual(len(desk.deck().deeds()), 8)

    def test_each_deed(self):
        desk = desk_of("new a 4", "add a", "put a 0 8 on 1 60 1", "put a 1 4 mark ", "pace a 0 7", "later a 0 4",
                       "keyed a 0 -60", "even a 0 5 0 100", "cure a 0", "beat a 8", "part a 0 2", "merge a 0 2",
                       "take a 1 0", "cut a 6 b", "unpace b 0", "drop a")
        self.assertEqual(desk.deck().names(), ["b"])
        self.assertEqual(desk.deck().tape("b"), Tape(8, [[(14, "on", 1, 0, 1), (14, "off", 1, 0, 64)], []]))

    def test_undo_and_redo(self):
        desk = desk_of("new a 96", "add a", "undo", "undo")
        self.leaves(desk, "refused nothingleft", "undo")
        self.says(desk, ("names", "none"), ("redo", "done"), ("names", "a"), ("redo", "done"))
        self.leaves(desk, "refused nothingleft", "redo")
        self.assertEqual(desk.deck().tape("a"), Tape(96, [[], []]))

    def test_refused(self):
        desk = desk_of(*SONG)
        for line, told in [
            ("new A 96", "badname"), ("new toolonger 96", "badname"), ("new a 0", "taken"), ("new b 0", "badbeat"),
            ("new 5 96", "badname"), ("drop b", "notape"), ("add 7", "notape"), ("put a 2 0 on 1 60 1", "notrack"),
            ("put a -1 0 zap", "notrack"), ("put a 0 0 zap", "badevent"), ("put a 0 0 on 1 60 0", "badevent"),
            ("put a 0 -1 mark x", "badevent"), ("put a 0 0 mark X", "badevent"), ("put a 0 0 mark abcdefghijklm", "badevent"),
            ("take a 0 4", "noevent"), ("pace a -1 0", "badtick"), ("pace a 0 0", "badpace"), ("unpace a 0", "nopace"),
            ("later a 0 -1", "badtick"), ("keyed a 0 60", "badkey"), ("even a 0 0 0 0", "badgrid"),
            ("cure a 2", "notrack"), ("merge a 0 0", "baddeed"), ("part a 0 16", "badchannel"), ("beat a 0", "badbeat"),
            ("beat a 1", "notwhole"), ("cut a -1 A", "badtick"), ("cut a 0 A", "badname"), ("cut a 0 a", "taken"),
        ]:
            self.leaves(desk, "refused " + told, line)

    def test_full(self):
        desk = desk_of(*[f"new {name} 1" for name in "abcdef"])
        self.leaves(desk, "refused full", "new g 1", "cut a 0 g")


class Questions(Case):
    def test_names(self):
        self.says(Desk(), ("names", "none"))
        self.says(desk_of("new b 1"), ("names", "b"))
        self.says(desk_of("new b 1", "new c 1", "new aa 1"), ("names", "aa b c"))

    def test_bytes(self):
        desk = desk_of(*SONG)
        told = " ".join(str(byte) for byte in tape_bytes(desk.deck().tape("a")))
        self.says(desk, ("bytes a", told), ("bytes b", "refused notape"), ("bytes 5", "refused notape"))
        self.says(desk_of("new a 96"), ("bytes a", "96 0 1 0 255"))

    def test_moment(self):
        desk = desk_of(*SONG)
        self.says(desk, ("moment a 0", "0 1"), ("moment a 48", "250000 1"), ("moment a 1", "15625 3"),
                  ("moment a 49", "1515625 6"), ("moment a 144", "500000 1"),
                  ("moment a 999999", " ".join(map(str, desk.deck().tape("a").paced().moment(999999)))),
                  ("moment a 1000000", "refused badtick"), ("moment a -1", "refused badtick"),
                  ("moment a 99999999", "refused badtick"), ("moment b -1", "refused notape"))
        self.says(desk_of("new a 1", "pace a 0 16777215"), ("moment a 999999", "16777198222785 1"))

    def test_notes(self):
        desk = desk_of(*SONG)
        self.says(desk, ("notes a 0 0", "0 72 5; 1 60 100; 1 60 9"), ("notes a 0 47", "0 72 5; 1 60 100; 1 60 9"),
                  ("notes a 0 48", "0 72 5; 1 60 9"), ("notes a 1 5", "none"), ("notes a 1 999999", "none"),
                  ("notes a 0 -1", "refused badtick"), ("notes a 0 1000000", "refused badtick"),
                  ("notes a 2 -1", "refused notrack"), ("notes a -1 0", "refused notrack"),
                  ("notes b -1 -1", "refused notape"))

    def test_hung(self):
        desk = desk_of(*SONG)
        self.says(desk, ("hung a 0", "1 2"), ("hung a 1", "none"), ("hung a 2", "refused notrack"),
                  ("hung a -1", "refused notrack"), ("hung b 0", "refused notape"))
        self.says(desk_of("new a 1", "put a 0 5 on 1 1 1"), ("hung a 0", "0"))

    def test_questions_change_nothing(self):
        desk = desk_of(*SONG, "undo")
        for line in ("names", "bytes a", "moment a 5", "notes a 0 0", "hung a 0"):
            self.leaves(desk, desk.say(line), line, line)
        self.says(desk, ("redo", "done"))


class NoLine(Case):
    def test_any_other_line(self):
        desk = desk_of("new a 96", "add a", "undo")
        self.leaves(desk, "no line", "", " ", "  ", "zap", "zap a", "all 2", "done", "none", "Names", "NAMES", "name",
                    "names a", "undo 1", "redo a", "bytes", "bytes a a", "bytes a 0", "moment", "moment a",
                    "moment a 5 5", "moment a b", "moment 5", "notes a 0", "notes a 0 0 0", "notes a b 0", "hung a",
                    "hung a 0 0", "hung a b", "new a", "new b 1 1", "add", "drop", "put a 0 0", "cut a 0", "deck", "say a")

    def test_blanks(self):
        desk = desk_of("new a 96")
        self.leaves(desk, "no line", " names", "names ", "undo ", " undo", "bytes  a", "bytes a ", " bytes a",
                    "moment a  5", "moment a 5 ", "notes a 0  0", "hung  a 0", "hung a 0 ", "new  b 1", "new b 1 ",
                    "put a 0 5 on 1  2 3", "put a 0 5 on 1 2 3 ", "put a 0  5 mark x", "put a 0 5 mark", "bytes ")
        self.says(desk, ("put a 0 5 mark ", "done"), ("put a 0 5 mark   x", "done"))

    def test_numbers(self):
        desk = desk_of("new a 96")
        for word in ("00", "05", "-0", "-05", "+5", "5.0", "-", "x", "123456789", "-123456789", "1e3", "1_0"):
            self.leaves(desk, "no line", f"moment a {word}", f"notes a {word} 0", f"notes a 0 {word}", f"hung a {word}",
                        f"new b {word}", f"later a 0 {word}", f"put a 0 {word} mark ", f"put a 0 5 voice 1 {word}")

    def test_line_feeds(self):
        desk = desk_of("new a 96", "add a", "undo")
        self.leaves(desk, "no line", "\n", "names\n", "\nnames", "undo\n", "bytes a\n", "bytes \na", "new b 96\n",
                    "new b\n96", "put a 0 5 mark x\n", "put a 0 5 mark \n", "put a 0 5 mark x\ny", "names\nnames")
        self.says(desk, ("redo", "done"))


class Many(Case):
    def test_as_the_plain_one(self):
        chance = random.Random(121)
        for _ in range(25):
            desk, tapes = Desk(), {}
            for _ in range(80):
                line = deed_row(chance_deed(chance, ["a", "b", "c"]))
                deed = plain_deed(line)
                try:
                    after, told = (plain_do(tapes, deed), "done") if deed else (tapes, "no line")
                except Refused as refusal:
                    after, told = tapes, f"refused {refusal}"
                self.assertEqual(desk.say(line), told, line)
                self.assertEqual(tapes_of(desk.deck()), after)
                tapes = after


if __name__ == "__main__":
    unittest.main()
