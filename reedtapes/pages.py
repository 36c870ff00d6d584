"""Pages: deeds as rows of text, and decks as pages of such rows."""

from reedtapes.deck import Deck
from reedtapes.deeds import THINGS
from reedtapes.errors import BadPage, MissingError, TapeError

FIGURES = "0123456789"
MOST_FIGURES = 8
# The word of the row ahead of deeds that were done as a row of their own, and the fewest that are.
ALL = "all"
FEWEST = 2


def deed_row(deed):
    """The row of a deed."""
    words = []
    for thing in deed:
        words.extend(list(thing) if isinstance(thing, tuple) else [thing])
    return joined(words)


def joined(words):
    """Numbers and texts with one blank between."""
    return " ".join([str(word) for word in words])


def read_deed(text):
    """The deed that a row writes."""
    return read_words(text, dict(THINGS))


def read_words(text, kinds):
    """The things that a row writes, the kinds of those behind each first word being told."""
    word, *words = text.split(" ")
    if "\n" in text or word not in kinds:
        raise BadPage(0)
    if "event" in kinds[word]:
        ahead = len(kinds[word]) - 1
        return (word,) + read_things(words[:ahead], kinds[word][:ahead]) + (read_event(words[ahead:]),)
    return (word,) + read_things(words, kinds[word])


def read_things(words, kinds):
    """The words as things of these kinds, each a word or a number."""
    if len(words) != len(kinds):
        raise BadPage(0)
    return tuple([read_number(word) if kind == "number" else read_word(word) for word, kind in zip(words, kinds)])


def read_event(words):
    """The event of these words, the last thing of its row."""
    head = read_things(words[:2], ("number", "word"))
    rest = words[2:]
    if head[1] != "mark":
        return head + tuple([read_number(word) for word in rest])
    if len(rest) == 0:
        raise BadPage(0)
    # A mark's text may hold blanks, and so it was split as well.
    return head + (" ".join(rest),)


def read_word(word):
    """A word of one sign at least."""
    if word == "":
        raise BadPage(0)
    return word


def read_number(word):
    """The number that a word writes."""
    figures = word[1:] if word.startswith("-") else word
    if not 1 <= len(figures) <= MOST_FIGURES or not all([sign in FIGURES for sign in figures]):
        raise BadPage(0)
    # Needless noughts, and a `-` ahead of nought, are not written back.
    if str(int(word)) != word:
        raise BadPage(0)
    return int(word)


def page(deck):
    """The rows of the deeds that stand in a deck."""
    rows = []
    for deeds in deck.deeds():
        if len(deeds) >= FEWEST:
            rows.append(joined([ALL, len(deeds)]))
        rows.extend([deed_row(deed) for deed in deeds])
    return "".join([row + "\n" for row in rows])


def read_page(text):
    """A deck in which was done what a page tells."""
    *rows, rest = text.split("\n")
    deck = Deck()
    at = 0
    while at < len(rows):
        deeds, behind = read_done(rows, at)
        do_again(deck, deeds, at)
        at = behind
    if rest != "":
        raise BadPage(len(rows))
    return deck


def read_done(rows, at):
    """The deeds that were done at once, of the row at a place and those behind it, and the place behind them."""
    if rows[at].split(" ")[0] != ALL:
        return [deed_at(rows, at)], at + 1
    behind = at + 1 + count_at(rows, at)
    return [deed_at(rows, place) for place in range(at + 1, behind)], behind


def count_at(rows, at):
    """How many deeds the row at a place tells to be done as a row."""
    _, many = words_at(rows, at, {ALL: ("number",)})
    if many < FEWEST:
        raise BadPage(at)
    return many


def deed_at(rows, at):
    """The deed of the row at a place."""
    return words_at(rows, at, dict(THINGS))


def words_at(rows, at, kinds):
    """The things of the row at a place, which must be there."""
    if at >= len(rows):
        raise BadPage(at)
    try:
        return read_words(rows[at], kinds)
    except BadPage:
        raise BadPage(at) from None


def do_again(deck, deeds, at):
    """Do the deeds that the row at a place tells."""
    try:
        deck.do_all(deeds)
    except (TapeError, MissingError):
        raise BadPage(at) from None
