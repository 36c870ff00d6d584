"""Rows and pages read plainly, by patterns, as point [21] tells them."""

import re

from reedtapes.deck import Deck
from reedtapes.errors import MissingError, TapeError

NUMBER = r"(?:0|-?[1-9][0-9]{0,7})"
WORD = r"[^ \n]+"
KINDS = {"new": "wn", "drop": "w", "add": "w", "take": "wnn", "pace": "wnn", "unpace": "wn", "later": "wnn",
         "keyed": "wnn", "even": "wnnnn", "cure": "wn", "merge": "wnn", "part": "wnn", "beat": "wn", "cut": "wnw"}
MARK = re.compile(f"put ({WORD}) ({NUMBER}) ({NUMBER}) mark (.*)")
PUT = re.compile(f"put ({WORD}) ({NUMBER}) ({NUMBER}) (?!mark(?: |$))({WORD})((?: {NUMBER})*)")


def plain_deed(row):
    """The deed that a row writes, or None."""
    if found := MARK.fullmatch(row):
        return ("put", found[1], int(found[2]), (int(found[3]), "mark", found[4]))
    if found := PUT.fullmatch(row):
        return ("put", found[1], int(found[2]), (int(found[3]), found[4], *map(int, found[5].split())))
    for word, kinds in KINDS.items():
        parts = "".join(f" ({NUMBER if kind == 'n' else WORD})" for kind in kinds)
        if found := re.fullmatch(word + parts, row):
            return (word, *[int(part) if kind == "n" else part for part, kind in zip(found.groups(), kinds)])
    return None


def plain_page(text):
    """The deck that a page tells, or the number of the row for which it is none."""
    rows, deck, at = re.findall("[^\n]*\n|[^\n]+", text), Deck(), 0
    while at < len(rows):
        begin, many = at, 1
        if found := re.fullmatch(f"all ({NUMBER})\n", rows[at]):
            many = int(found[1])
            if many < 2:
                return at
            at += 1
        deeds = []
        for _ in range(many):
            deed = plain_deed(rows[at][:-1]) if at < len(rows) and rows[at].endswith("\n") else None
            if deed is None:
                return at
            deeds.append(deed)
            at += 1
        try:
            deck.do_all(deeds)
        except (TapeError, MissingError):
            return begin
    return deck
