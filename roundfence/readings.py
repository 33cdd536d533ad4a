"""Readings: Boards and standings read back from their texts."""

from roundfence.boards import FIRST, OTHER, SECOND, Board
from roundfence.errors import NoText

LETTERS = "abcdef"
DIGITS = "0123456789"

# How many figures a number may have.
FIGURES = 60


def read_board(text):
    """The Board that a text writes."""
    rounds, _, rule = text.partition(": ")
    first, _, second = rounds.partition(" ")
    rows = [] if rule == "-" else rule.split(", ")
    if not (is_round(first) and is_round(second) and are_rows(rows)):
        raise NoText(text)
    return Board(first, second, [(written[0], written[1], written[3:]) for written in rows])


def read_standing(text):
    """The standing that a text writes, whatever its place."""
    place, _, last = text.partition(" ")
    i, _, j = place.partition(".")
    if not (is_number(i) and is_number(j) and last in (FIRST, SECOND)):
        raise NoText(text)
    return int(i), int(j), last


def is_round(text):
    """Whether a text writes a round: letters, and one at least."""
    return text != "" and all([letter in LETTERS for letter in text])


def are_rows(texts):
    """Whether texts write rows of a rule, each pair once and in order."""
    pairs = [written[:2] for written in texts]
    return all([is_row(written) for written in texts]) and pairs == sorted(set(pairs))


def is_row(text):
    """Whether a text writes a row of a rule."""
    pair, _, word = text.partition(" ")
    return len(pair) == 2 and is_round(pair) and word in (FIRST, SECOND, OTHER)


def is_number(text):
    """Whether a text writes a number: figures, and no nought ahead of others."""
    # Not asked by isdigit, which takes other signs for figures, too.
    if not 0 < len(text) <= FIGURES or not all([figure in DIGITS for figure in text]):
        return False
    return text == "0" or text[0] != "0"
