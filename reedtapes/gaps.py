"""Gaps: numbers as one to four bytes, seven bits in each."""

from reedtapes.errors import BadBytes, BadNumber

MOST_GAP = 268435455
MOST_SIZE = 4
BASE = 128


def gap_bytes(number):
    """The bytes of a gap, the highest figure first."""
    if number < 0 or number > MOST_GAP:
        raise BadNumber(f"no gap is {number}")
    row = [number % BASE]
    rest = number // BASE
    while rest > 0:
        row.append(BASE + rest % BASE)
        rest = rest // BASE
    row.reverse()
    return row


def gap_read(row, at=0):
    """The gap whose bytes begin at a place of a row, and the place behind them."""
    number = 0
    place = at
    while place < len(row) and row[place] >= BASE:
        # A leading nought is a byte too many, and the last byte that a gap may have ends it.
        if (place == at and row[place] == BASE) or place == at + MOST_SIZE - 1:
            raise BadBytes(place)
        number = number * BASE + row[place] - BASE
        place += 1
    if place >= len(row):
        raise BadBytes(len(row))
    return number * BASE + row[place], place + 1
