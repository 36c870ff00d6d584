"""Promise [21]: deeds as rows, and decks as pages of them."""

import random
import unittest

from plain_deck import chance_deed
from plain_pages import plain_deed, plain_page
from reedtapes.deck import Deck
from reedtapes.errors import BadPage, MissingError, TapeError
from reedtapes.pages import deed_row, page, read_deed, read_page
from reedtapes.tape import Tape

ROWS = [
    (("new", "a", 96), "new a 96"),
    (("drop", "song"), "drop song"),
    (("add", "a"), "add a"),
    (("put", "a", 0, (12, "on", 3, 60, 100)), "put a 0 12 on 3 60 100"),
    (("put", "a", 0, (12, "off", 3, 60, 0)), "put a 0 12 off 3 60 0"),
    (("put", "a", 0, (12, "voice", 3, 60)), "put a 0 12 voice 3 60"),
    (("put", "a", 0, (5, "mark", "end of it")), "put a 0 5 mark end of it"),
    (("take", "a", 5, 0), "take a 5 0"),
    (("pace", "a", 0, 500000), "pace a 0 500000"),
    (("unpace", "a", 0), "unpace a 0"),
    (("later", "a", 0, -96), "later a 0 -96"),
    (("keyed", "a", 0, -12), "keyed a 0 -12"),
    (("even", "a", 0, 24, 6, 50), "even a 0 24 6 50"),
    (("cure", "a", 0), "cure a 0"),
    (("merge", "a", 0, 1), "merge a 0 1"),
    (("part", "a", 0, 15), "part a 0 15"),
    (("beat", "a", 192), "beat a 192"),
    (("cut", "a", 48, "b"), "cut a 48 b"),
]


def put_row(text):
    return "put a 0 5 mark " + text


def deck_of(*rows):
    """A deck in which each of these was done: a deed, or a list of them as a row."""
    deck = Deck()
    for row in rows:
        deck.do_all(row if isinstance(row, list) else [row])
    return deck


class Rows(unittest.TestCase):
    def no_row(self, *texts):
        for text in texts:
            with self.assertRaises(BadPage) as caught:
                read_deed(text)
            self.assertEqual(caught.exception.row, 0, text)

    def test_there_and_back(self):
        for deed, text in ROWS:
            self.assertEqual(deed_row(deed=deed), text)
            self.assertEqual(read_deed(text=text), deed)

    def test_marks(self):
        for text in ("", " ", "  ", "a", " a", "a ", "  a  b  ", "12", "-1", "mark", "x y z", "A!", "a" * 40):
            deed = ("put", "a", 0, (5, "mark", text))
            self.assertEqual(deed_row(deed), put_row(text))
            self.assertEqual(read_deed(put_row(text)), deed)
        self.no_row("put a 0 5 mark", "put a 0 5 mark a\n", "put a 0 5 mark \n", "put a 0 5 mark a\nb")

    def test_numbers(self):
        for number in (0, 1, -1, 9, 10, -10, 99999999, -99999999, 12345678, 100):
            deed = ("later", "a", number, number)
            self.assertEqual(deed_row(deed), f"later a {number} {number}")
            self.assertEqual(read_deed(deed_row(deed)), deed)
        self.no_row(*[f"later a 0 {word}" for word in (
            "", "-", "-0", "00", "01", "-01", "+1", "1.0", "1e2", "x", "1x", "--1", "1-", "0x1", "123456789",
            "-123456789", "100000000", "1_0", "one", "000000000", "1,0")])
        self.no_row(*[f"later a {word} 0" for word in ("", "-", "-0", "00", "x", "123456789")])

    def test_longer_numbers_are_written(self):
        for number in (100000000, -100000000, 10 ** 29, -10 ** 29):
            self.assertEqual(deed_row(("later", "a", 0, number)), f"later a 0 {number}")
            self.no_row(deed_row(("later", "a", 0, number)))

    def test_names_and_other_words(self):
        for word in ("a", "A", "toolongname", "-", "-0", "12", "0", "mark", "all", "a.b", "~", "\\", "!"):
            for deed in (("drop", word), ("new", word, 5), ("cut", "a", 5, word), ("cut", word, 5, "b"),
                         ("put", word, 0, (5, "on", 1))):
                self.assertEqual(read_deed(deed_row(deed)), deed)
        self.no_row("drop ", "drop", "new  5", "cut a 5 ", "cut a 5", "cut  5 b", "put  0 5 on 1", "drop a b", "drop a ")

    def test_events_of_any_words_and_counts(self):
        for event in ((5, "zap"), (5, "on"), (5, "on", 1), (5, "on", 1, 2, 3, 4, 5), (-5, "zap", -1), (5, "7", 7),
                      (5, "-", 0), (5, "marks", 1), (5, "MARK")):
            deed = ("put", "a", -1, event)
            self.assertEqual(read_deed(deed_row(deed)), deed)
        self.no_row("put a 0", "put a 0 5", "put a 0 ", "put a 0 5 ", "put a 0 5  1", "put a 0 x on 1", "put a 0 5 on ",
                    "put a 0 5 on  1", "put a 0 5 on 1 ", "put a 0 5 on x", "put a 0 5 on 01", "put a 0 5 on 123456789",
                    "put a 0 mark x", "put a x 5 on 1", "put a 0 05 mark x", "put a 0 5 zap x", "put a 5 mark", "put")

    def test_no_row(self):
        self.no_row("", " ", "\n", "zap", "zap a", "zap a 5", "New a 5", "new a", "new a 5 6", "new a b", "all 2", "undo",
                    "names", " new a 5", "new a 5 ", "new  a 5", "new a  5", "new a 5\n", "\nnew a 5", "new a 5\nadd a",
                    "new\na 5", "add", "add a b", "take a 0", "pace a 0 0 0", "even a 0 1 2", "even a 0 1 2 3 4",
                    "cure a", "merge a 0", "merge a 0 b", "part a 0 c", "beat a b", "cut a b 5", "cut a 5 b c", "newa 5")

    def test_by_chance(self):
        chance = random.Random(111)
        for _ in range(600):
            deed = chance_deed(chance, ["a", "b", "c"])
            if deed[1] == "":
                continue
            text = deed_row(deed)
            self.assertEqual(read_deed(text), deed)
            self.assertEqual(plain_deed(text), deed)
            for _ in range(6):
                signs = list(text)
                signs[chance.randrange(len(signs))] = chance.choice(["", " ", "0", "-", "a", "  ", "1", " mark ", "\n"])
                other = "".join(signs)
                told = plain_deed(other)
                if told is None:
                    self.no_row(other)
                else:
                    self.assertEqual(read_deed(other), told)
                    self.assertEqual(deed_row(told), other)


class Pages(unittest.TestCase):
    def test_of_nothing(self):
        self.assertEqual(page(deck=Deck()), "")
        self.assertEqual(read_page(text=""), Deck())
        deck = deck_of(("new", "a", 96))
        deck.undo()
        self.assertEqual(page(deck), "")

    def test_one_by_one_and_as_a_row(self):
        deck = deck_of(("new", "a", 96), [("add", "a"), ("put", "a", 1, (5, "mark", " x "))], [("add", "a")],
                       [("drop", "a"), ("new", "b", 7), ("add", "b")])
        text = "new a 96\nall 2\nadd a\nput a 1 5 mark  x \nadd a\nall 3\ndrop a\nnew b 7\nadd b\n"
        self.assertEqual(page(deck), text)
        told = read_page(text)
        self.assertIsInstance(told, Deck)
        self.assertEqual(told, deck)
        self.assertEqual((told.deeds(), told.fresh()), (deck.deeds(), deck.fresh()))
        self.assertEqual(page(told), text)
        for _ in range(4):
            self.assertEqual(told.undo(), deck.undo())
            self.assertEqual(told, deck)
        for _ in range(4):
            self.assertEqual(told.redo(), deck.redo())
            self.assertEqual(told, deck)

    def test_only_deeds_that_stand(self):
        deck = deck_of(("new", "a", 96), [("add", "a"), ("add", "a")])
        deck.undo()
        self.assertEqual(page(deck), "new a 96\n")
        deck.redo()
        self.assertEqual(page(deck), "new a 96\nall 2\nadd a\nadd a\n")

    def test_nothing_is_changed(self):
        deck = deck_of(("new", "a", 96))
        twin = deck.twin()
        self.assertEqual(page(deck), page(deck))
        self.assertEqual((deck, deck.deeds(), deck.fresh()), (twin, twin.deeds(), twin.fresh()))

    def test_longer_numbers_are_written_and_not_read(self):
        deck = deck_of(("new", "a", 96), ("later", "a", 0, 10 ** 8))
        self.assertEqual(page(deck), "new a 96\nlater a 0 100000000\n")
        with self.assertRaises(BadPage) as caught:
            read_page(page(deck))
        self.assertEqual(caught.exception.row, 1)
        deck = deck_of(("new", "a", 96), ("later", "a", 0, -99999999))
        self.assertEqual(read_page(page(deck)).deeds(), deck.deeds())


class BadPages(unittest.TestCase):
    def bad(self, row, *texts):
        for text in texts:
            with self.assertRaises(BadPage) as caught:
                read_page(text)
            self.assertEqual(caught.exception.row, row, text)

    def test_rows_that_write_no_deed(self):
        self.bad(0, "\n", "zap\n", "new a\n", " new a 96\n", "\nnew a 96\n", "zap\nzap\n", "new a 096\n", "undo\n")
        self.bad(1, "new a 96\n\n", "new a 96\nzap\n", "new a 96\nadd a \nzap\n", "new a 96\n\nadd a\n")

    def test_rows_without_a_line_feed(self):
        self.bad(0, "new a 96", " ", "zap", "all 2", "a")
        self.bad(1, "new a 96\nadd a", "new a 96\n ", "new a 96\nall 2")
        self.bad(2, "new a 96\nadd a\nadd a", "new a 96\nadd a\nzap")

    def test_refused_rows(self):
        self.bad(0, "add a\n", "new A 96\n", "new a 0\nzap\n", "add a\nadd a")
        self.bad(1, "new a 96\nnew a 96\n", "new a 96\nmerge a 0 0\nadd a\n", "new a 96\ndrop b\nzap\n")
        self.bad(6, "new a 96\n" + "add a\n" * 7)

    def test_all(self):
        self.assertEqual(read_page("all 2\nnew a 96\nadd a\n").deeds(), [[("new", "a", 96), ("add", "a")]])
        self.bad(0, "all\n", "all \n", "all 0\n", "all 1\nnew a 96\n", "all -2\nnew a 96\nadd a\n", "all 02\nnew a 96\n",
                 "all 2 \nnew a 96\nadd a\n", "all x\n", "all 2 2\n", "all  2\nnew a 96\nadd a\n", "All 2\nnew a 96\n",
                 "all 100000000\nnew a 96\nadd a\n")
        self.bad(1, "new a 96\nall 1\nadd a\n")

    def test_rows_that_lack(self):
        self.bad(1, "all 2\n", "all 99999999\n")
        self.bad(2, "all 2\nnew a 96\n", "all 3\nnew a 96\n", "all 99999999\nnew a 96\n")
        self.bad(3, "new a 96\nall 2\nadd a\n", "all 3\nnew a 96\nadd a\n")

    def test_bad_rows_behind_all(self):
        self.bad(1, "all 2\nzap\nadd a\n", "all 2\n\nadd a\n", "all 2\nall 2\nnew a 96\nadd a\n", "all 2\nnew a 96")
        self.bad(2, "all 2\nnew a 96\nzap\n", "all 2\nnew a 96\nadd a", "all 3\nnew a 96\n\n")

    def test_refused_behind_all(self):
        self.bad(0, "all 2\nnew a 96\nadd b\n", "all 2\nadd b\nnew a 96\n", "all 2\nnew a 96\nadd b\nzap\n")
        self.bad(1, "new a 96\nall 3\nadd a\nadd a\nnew a 96\n")
        # They are read ahead of being done.
        self.bad(2, "all 2\nadd b\nzap\n", "all 2\nadd b\n", "all 2\nadd b\nnew a 96")

    def test_all_or_none_of_them_decide(self):
        self.bad(3, "all 2\nnew a 96\nadd a\nadd b\n", "all 2\nnew a 96\nadd a\nadd a", "all 2\nnew a 96\nadd a\nzap\n")

    def test_by_chance(self):
        chance = random.Random(112)
        read = 0
        for _ in range(150):
            deck, names = Deck(), ["a", "b", "c"]
            for _ in range(chance.randint(1, 40)):
                row = [chance_deed(chance, names) for _ in range(chance.choice([1, 1, 2, 3]))]
                if not deck.names():
                    row.insert(0, ("new", "a", 4))
                try:
                    deck.do_all(row)
                except (TapeError, MissingError):
                    pass
            text = page(deck)
            self.assertEqual(read_page(text).deeds(), deck.deeds())
            for _ in range(15):
                rows = text.splitlines(keepends=True) or [""]
                at = chance.randrange(len(rows))
                rows[at] = chance.choice(["", "\n", rows[at][:-1], rows[at] * 2, "all 2\n", "all 3\n", "zap\n",
                                          rows[at].replace("a", "b"), rows[at].replace("0", "1")])
                other = "".join(rows)
                told = plain_page(other)
                if isinstance(told, int):
                    self.bad(told, other)
                else:
                    self.assertEqual(read_page(other).deeds(), told.deeds())
                    self.assertEqual(page(read_page(other)), other)
                    read += 1
        self.assertGreater(read, 200)

    def test_large(self):
        rows = ["new a 96\n"] + [f"put a 0 {tick} mark \n" for tick in range(200)] + ["add a\n"]
        rows += ["all 40\n"] + [f"put a 1 {tick} on 1 60 1\n" for tick in range(40)]
        rows += ["later a 0 1\n", "later a 0 -1\n"] * 200
        deck = read_page("".join(rows))
        self.assertEqual(page(deck), "".join(rows))
        self.assertEqual(deck.tape("a"), Tape(96, [[(tick, "mark", "") for tick in range(200)],
                                                   [(tick, "on", 1, 60, 1) for tick in range(40)]]))


if __name__ == "__main__":
    unittest.main()
