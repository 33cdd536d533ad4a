"""Trips: the walks of a Board that come back to their standings."""

from roundfence.boards import FIRST, SECOND, check_standing, tick
from roundfence.loops import loops, way_in


def trips(board):
    """All trips, each from its least standing on, in the order of these."""
    return loops(ticks_of(board))


def pace(board):
    """How many rounds of its own each reader does in a trip."""
    # One trip is enough: all trips have the same pace.
    trip = trips(board)[0]
    firsts = first_steps(trip)
    return firsts // len(board.first()), (len(trip) - firsts) // len(board.second())


def comes_to(board, standing):
    """The number of the trip to which a standing comes, and the least ticks until it is in it."""
    check_standing(board, standing)
    follows = ticks_of(board)
    return way_in(follows, loops(follows), standing)


def first_steps(trip):
    """How many of the trip's ticks are the first reader's."""
    return len([last for _, _, last in trip if last == FIRST])


def ticks_of(board):
    """A dict from each standing of the board to the one that follows it."""
    return {
        (i, j, last): tick(board, (i, j, last))
        for i in range(len(board.first()))
        for j in range(len(board.second()))
        for last in (FIRST, SECOND)
    }
