"""Gaps: numbers as one to four bytes, seven bits in each."""

from reedtapes.errors import BadBytes, BadNumber

MOST_GAP = 268435455
BASE = 128


def gap_bytes(number):
    """The bytes of a gap, the highest figure first."""
    if number < 0 or number > MOST_GAP:
        raise BadNumber(f"no gap is {number}")
    row = [number % BASE]
    rest = number // BASE
    while rest > 0:
        row.append(BASE + rest % BASE)
        rest = rest // BASE
    row.reverse()
    return row


def gap_read(row, at=0):
    """The gap whose bytes begin at a place of a row, and the place behind them."""
    return gap_within(row, at, 0, MOST_GAP)


def gap_within(row, at, least, most):
    """The gap at a place of a row, from a least one, 0 or 1, to a most one, and the place behind it."""
    number = 0
    for place in range(at, len(row)):
        is_last = row[place] < BASE
        number = number * BASE + row[place] % BASE
        if not gap_goes_on(number, is_last, least, most):
            raise BadBytes(place)
        if is_last:
            return number, place + 1
    raise BadBytes(len(row))


def gap_goes_on(number, is_last, least, most):
    """Whether the figures so far, all of them or not, lead to a gap from a least one, 0 or 1, to a most one."""
    if is_last:
        return least <= number <= most
    # A gap that goes on gets a figure more at least, and begins with no nought.
    return number > 0 and number * BASE <= most
