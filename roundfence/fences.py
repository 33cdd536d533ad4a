"""Fences: the ways of a Board read backwards that come back to their places."""

from roundfence.boards import FIRST, SECOND
from roundfence.loops import loops, way_in


def fences(board):
    """All fences, each from its least place on, in the order of these."""
    return loops(steps_back(board))


def fence_of(board, place):
    """The number of the fence to which a place comes, and the least ticks until it is in it."""
    i, j = place
    # Asked for its refusal alone, of a place that the board does not have.
    board.word(i, j)
    follows = steps_back(board)
    return way_in(follows, loops(follows), place)


def steps_back(board):
    """A dict from each place of the board to the one that follows it backwards."""
    return {
        (i, j): step_back(board, i, j)
        for i in range(len(board.first()))
        for j in range(len(board.second()))
    }


def step_back(board, i, j):
    """The place that follows a place of the board backwards: by other both readers step."""
    word = board.word(i, j)
    if word != SECOND:
        i = (i - 1) % len(board.first())
    if word != FIRST:
        j = (j - 1) % len(board.second())
    return i, j
