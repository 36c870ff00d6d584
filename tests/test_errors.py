"""Promise [1], errors: the two bases, the classes straight under them, and their fields."""

import unittest

from reedtapes import errors
from reedtapes.events import keyed, later, need_track, put_in
from reedtapes.gaps import gap_bytes, gap_read

WRONG = ["BadNumber", "BadEvent", "BadTrack", "BadBytes", "BadBeat", "BadPace", "BadTick", "BadMoment", "BadKey",
         "BadGrid", "BadChannel", "BadPaper", "BadName", "Taken", "Full", "NotWhole", "BadDeed", "BadPage",
         "NothingLeft"]
MISSING = ["NoTape", "NoTrack", "NoEvent", "NoPace"]
AT = ["BadTrack", "BadBytes", "NotWhole"]


def made(name):
    kind = getattr(errors, name)
    return kind(7) if name in AT + ["BadPage"] else kind()


def caught(base, call, *things):
    try:
        call(*things)
    except base as error:
        return error
    raise AssertionError(f"{call.__name__}{things} was not refused")


class Classes(unittest.TestCase):
    def test_bases(self):
        self.assertEqual(errors.TapeError.__bases__, (ValueError,))
        self.assertEqual(errors.MissingError.__bases__, (LookupError,))

    def test_each_class_is_straight_under_its_base(self):
        for name in WRONG:
            self.assertEqual(getattr(errors, name).__bases__, (errors.TapeError,), name)
        for name in MISSING:
            self.assertEqual(getattr(errors, name).__bases__, (errors.MissingError,), name)

    def test_no_class_more(self):
        self.assertEqual({kind.__name__ for kind in errors.TapeError.__subclasses__()}, set(WRONG))
        self.assertEqual({kind.__name__ for kind in errors.MissingError.__subclasses__()}, set(MISSING))

    def test_each_is_defined_in_this_file_under_its_name(self):
        for name in WRONG + MISSING + ["TapeError", "MissingError"]:
            kind = getattr(errors, name)
            self.assertEqual((kind.__module__, kind.__name__), ("reedtapes.errors", name))


class Fields(unittest.TestCase):
    def test_called(self):
        for name in WRONG + MISSING + ["TapeError", "MissingError"]:
            self.assertEqual(made(name).called, name.lower())

    def test_called_of_some(self):
        self.assertEqual(errors.Full().called, "full")
        self.assertEqual(errors.NothingLeft().called, "nothingleft")
        self.assertEqual(errors.NoTape().called, "notape")
        self.assertEqual(made("BadTrack").called, "badtrack")

    def test_at_and_row(self):
        for name in AT:
            self.assertEqual(made(name).at, 7)
        self.assertEqual(errors.BadPage(7).row, 7)

    def test_the_fields_of_what_is_refused(self):
        gap = caught(errors.TapeError, gap_bytes, -1)
        self.assertEqual((gap.__class__, gap.called), (errors.BadNumber, "badnumber"))
        row = caught(errors.TapeError, gap_read, [0, 128, 0], 1)
        self.assertEqual((row.__class__, row.called, row.at), (errors.BadBytes, "badbytes", 1))
        track = caught(errors.TapeError, need_track, [(0, "mark", ""), ()])
        self.assertEqual((track.__class__, track.called, track.at), (errors.BadTrack, "badtrack", 1))
        tick = caught(errors.TapeError, later, [(0, "mark", "")], -1)
        self.assertEqual((tick.__class__, tick.called), (errors.BadTick, "badtick"))
        key = caught(errors.TapeError, keyed, [(0, "on", 0, 0, 1)], -1)
        self.assertEqual((key.__class__, key.called), (errors.BadKey, "badkey"))
        event = caught(errors.TapeError, put_in, [], ())
        self.assertEqual((event.__class__, event.called), (errors.BadEvent, "badevent"))
        full = caught(errors.TapeError, put_in, [(0, "mark", "")] * 200, (0, "mark", ""))
        self.assertEqual((full.__class__, full.called), (errors.Full, "full"))

    def test_they_are_caught_as_pythons_own(self):
        self.assertRaises(ValueError, gap_bytes, -1)
        self.assertIsInstance(errors.NoPace(), LookupError)


if __name__ == "__main__":
    unittest.main()
