"""A deck told plainly, deed by deed as point [20] lists them, and deeds by chance."""

from fractions import Fraction

from plain import chance_event
from reedtapes.events import is_event
from reedtapes.grids import Grid
from reedtapes.notes import cured
from reedtapes.tracks import cut

COUNTS = {"new": 3, "drop": 2, "add": 2, "put": 4, "take": 4, "pace": 4, "unpace": 3, "later": 4, "keyed": 4, "even": 6,
          "cure": 3, "merge": 4, "part": 4, "beat": 3, "cut": 4}


class Refused(Exception):
    """A deed is refused; the text tells by what."""


def need(holds, word):
    if not holds:
        raise Refused(word)


def plain_name(tapes, name):
    need(1 <= len(name) <= 8 and all("a" <= sign <= "z" for sign in name), "badname")
    need(name not in tapes, "taken")


def plain_do(tapes, deed):
    """The tapes behind a deed, each a triple (beat, tracks, dict of paces)."""
    need(deed and deed[0] in COUNTS and len(deed) == COUNTS[deed[0]], "baddeed")
    word, name = deed[:2]
    told = {other: (beat, [list(track) for track in tracks], dict(paces))
            for other, (beat, tracks, paces) in tapes.items()}
    if word == "new":
        plain_name(tapes, name)
        need(1 <= deed[2] <= 960, "badbeat")
        need(len(tapes) < 6, "full")
        told[name] = (deed[2], [[]], {})
        return told
    need(name in tapes, "notape")
    beat, tracks, paces = told[name]
    if word == "drop":
        del told[name]
    elif word == "add":
        need(len(tracks) < 6, "full")
        tracks.append([])
    elif word == "pace":
        _, _, tick, pace = deed
        need(0 <= tick <= 999999, "badtick")
        need(1 <= pace <= 16777215, "badpace")
        need(tick in paces or len(paces) < 20, "full")
        paces[tick] = pace
    elif word == "unpace":
        need(deed[2] in paces, "nopace")
        del paces[deed[2]]
    elif word == "beat":
        told[name] = plain_beat(told[name], deed[2])
    elif word == "cut":
        plain_cut(told, name, deed[2], deed[3])
    else:
        need(0 <= deed[2] < len(tracks), "notrack")
        plain_track(tracks, deed)
    return told


def plain_beat(tape, other):
    beat, tracks, paces = tape
    need(1 <= other <= 960, "badbeat")

    def moved(tick):
        return Fraction(tick * other, beat)

    ticks = [event[0] for track in tracks for event in track] + list(paces)
    need(all(moved(tick).denominator == 1 for tick in ticks), "notwhole")
    need(all(moved(tick) <= 999999 for tick in ticks), "badtick")
    return (other, [[(int(moved(event[0])), *event[1:]) for event in track] for track in tracks],
            {int(moved(tick)): pace for tick, pace in paces.items()})


def plain_cut(told, name, tick, other):
    beat, tracks, paces = told[name]
    need(0 <= tick <= 999999, "badtick")
    plain_name(told, other)
    need(len(told) < 6, "full")
    own = {start: pace for start, pace in paces.items() if start < tick}
    pace = dict(sorted(own.items())).get(max(own, default=None), 500000)
    theirs = {0: paces.get(tick, pace)}
    theirs.update({start - tick: pace for start, pace in paces.items() if start > tick})
    need(len(theirs) <= 20, "full")
    try:
        pieces = [cut(track, tick) for track in tracks]
    except ValueError:
        raise Refused("full") from None
    told[name] = (beat, [one for one, _ in pieces], own)
    told[other] = (beat, [two for _, two in pieces], theirs)


def plain_track(tracks, deed):
    word, _, number, *things = deed
    track = tracks[number]
    if word == "put":
        need(is_event(things[0]), "badevent")
        need(len(track) < 200, "full")
        # Sorting keeps events of like ticks in their order.
        tracks[number] = sorted(track + [things[0]], key=lambda event: event[0])
    elif word == "take":
        need(0 <= things[0] < len(track), "noevent")
        del track[things[0]]
    elif word == "later":
        need(all(0 <= event[0] + things[0] <= 999999 for event in track), "badtick")
        tracks[number] = [(event[0] + things[0], *event[1:]) for event in track]
    elif word == "keyed":
        plain_keyed(tracks, number, things[0])
    elif word == "even":
        step, swing, share = things
        need(1 <= step <= 9999 and 0 <= swing < step and 0 <= share <= 100, "badgrid")
        moved = [Grid(step, swing=swing, share=share).moved(event[0]) for event in track]
        need(all(tick <= 999999 for tick in moved), "badtick")
        tracks[number] = [(tick, *event[1:]) for tick, event in zip(moved, track)]
    elif word == "cure":
        try:
            tracks[number] = cured(track)
        except ValueError:
            raise Refused("full") from None
    elif word == "merge":
        need(0 <= things[0] < len(tracks), "notrack")
        need(things[0] != number, "baddeed")
        need(len(track) + len(tracks[things[0]]) <= 200, "full")
        tracks[number] = sorted(track + tracks[things[0]], key=lambda event: event[0])
        tracks.pop(things[0])
    elif word == "part":
        need(0 <= things[0] <= 15, "badchannel")
        need(len(tracks) < 6, "full")
        its = [event for event in track if event[1] != "mark" and event[2] == things[0]]
        tracks[number] = [event for event in track if event not in its]
        tracks.append(its)


def plain_keyed(tracks, number, by):
    told = []
    for event in tracks[number]:
        if event[1] in ("on", "off"):
            need(0 <= event[3] + by <= 127, "badkey")
            event = (*event[:3], event[3] + by, event[4])
        told.append(event)
    tracks[number] = told


def tapes_of(deck):
    """The tapes of a deck as triples, as they are told above."""
    told = {}
    for name in deck.names():
        tape = deck.tape(name)
        told[name] = (tape.beat(), tape.tracks(), dict(tape.paces()))
    return told


def fresh_between(before, after):
    told = []
    for name in sorted(after):
        olds = before[name][1] if name in before else []
        for number, track in enumerate(after[name][1]):
            if number >= len(olds) or olds[number] != track:
                told.append((name, number))
    return told


def chance_deed(chance, names):
    """A deed of any kind, mostly one that can be done."""
    word = chance.choice(list(COUNTS) + ["put"] * 12 + ["add", "new"] * 3)
    name = chance.choice(names * 8 + ["zz", "", "Bad", "toolonger"])
    number = chance.choice([0, 0, 0, 1, 1, 2, 3, 5, 6, -1])
    small = chance.randint(-3, 12)
    if word == "new":
        return (word, name, chance.choice([1, 2, 4, 96, 0, 961]))
    if word in ("drop", "add"):
        return (word, name)
    if word == "put":
        event = chance_event(chance, chance.randint(-1, 12), channels=3)
        if chance.random() < 0.3:
            event = (event[0], "on", chance.randint(0, 2), chance.randint(0, 2), 9)
        return (word, name, number, event)
    if word == "pace":
        return (word, name, small, chance.choice([0, 1, 500000, 16777216, 7]))
    if word == "unpace":
        return (word, name, small)
    if word == "even":
        return (word, name, number, chance.choice([1, 3, 4, 0]), chance.choice([0, 0, 1, 2, 4]),
                chance.choice([0, 50, 100, 101]))
    if word == "cure":
        return (word, name, number)
    if word == "beat":
        return (word, name, chance.choice([1, 2, 4, 8, 96, 960, 0, 961]))
    if word == "cut":
        return (word, name, small, chance.choice(names + ["zz"]))
    if word in ("merge", "part"):
        return (word, name, number, chance.choice([0, 1, 2, 3, 16, -1]))
    return (word, name, number, small)
