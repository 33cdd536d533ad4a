"""Counts: a Board turned about, and the rounds of one reader by those of the other one."""

from roundfence.boards import FIRST, OTHER, SECOND, Board, check_standing
from roundfence.errors import NoTicks


def turned(board):
    """The Board on which each of the readers is the other one."""
    rows = [(b, a, turned_word(word)) for a, b, word in board.rule()]
    return Board(board.second(), board.first(), rows)


def turned_word(word):
    """A rule's word where each of the readers is the other one."""
    if word == FIRST:
        return SECOND
    if word == SECOND:
        return FIRST
    return OTHER


def rounds_by(board, standing, rounds):
    """The second reader's whole rounds by so many of the first one, or None where it never does so many."""
    check_standing(board, standing)
    if rounds < 0:
        raise NoTicks(rounds)
    firsts = rounds * len(board.first())
    # A reader that the other one lets wait for more than a whole round waits for ever.
    most = firsts * (len(board.second()) + 1)
    if board.go(standing, most)[1] < firsts:
        return None
    ticks = least_ticks(board, standing, firsts, most)
    return board.go(standing, ticks)[2] // len(board.second())


def least_ticks(board, standing, firsts, most):
    """The least ticks, none above most, behind which the first reader has done so many steps."""
    low = 0
    high = most
    while low < high:
        middle = (low + high) // 2
        if board.go(standing, middle)[1] < firsts:
            low = middle + 1
        else:
            high = middle
    return low
