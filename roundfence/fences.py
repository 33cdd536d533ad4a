"""Fences: the ways of a Board read backwards that come back to their places."""

from roundfence.boards import FIRST, SECOND


def fences(board):
    """All fences, each from its least place on, in the order of these."""
    return board.ways(steps_back).told()


def fence_of(board, place):
    """The number of the fence to which a place comes, and the least ticks until it is in it."""
    i, j = place
    # Asked for its refusal alone, of a place that the board does not have.
    board.word(i, j)
    # A tuple of its own, so that nothing that was handed in is kept.
    number, ticks, _ = board.ways(steps_back).end((i, j))
    return number, ticks


def steps_back(board):
    """A dict from each place of the board to the one that follows it backwards: by other both readers step."""
    a, b = len(board.first()), len(board.second())
    follows = {}
    for i in range(a):
        for j in range(b):
            word = board.word(i, j)
            follows[(i, j)] = (i if word == SECOND else (i - 1) % a, j if word == FIRST else (j - 1) % b)
    return follows
