"""Trips: the walks of a Board that come back to their standings."""

from roundfence.boards import FIRST, SECOND, check_standing


def trips(board):
    """All trips, each from its least standing on, in the order of these."""
    return board.ways(ticks_of).told()


def pace(board):
    """How many rounds of its own each reader does in a trip."""
    # One trip is enough: all trips have the same pace.
    trip = board.ways(ticks_of).loops[0]
    firsts = first_steps(trip)
    return firsts // len(board.first()), (len(trip) - firsts) // len(board.second())


def comes_to(board, standing):
    """The number of the trip to which a standing comes, and the least ticks until it is in it."""
    number, ticks, _ = way_in(board, standing)
    return number, ticks


def way_in(board, standing):
    """The number of the trip to which a standing comes, the ticks until it is in it, and its spot there."""
    check_standing(board, standing)
    i, j, last = standing
    # Its own tuple, so that nothing that was handed in is kept.
    return board.ways(ticks_of).end((i, j, last))


def first_steps(trip):
    """How many of the trip's ticks are the first reader's."""
    return len([last for _, _, last in trip if last == FIRST])


def ticks_of(board):
    """A dict from each standing of the board to the one that follows it."""
    a, b = len(board.first()), len(board.second())
    follows = {}
    for i in range(a):
        for j in range(b):
            word = board.word(i, j)
            by_first = ((i + 1) % a, j, FIRST)
            by_second = (i, (j + 1) % b, SECOND)
            follows[(i, j, FIRST)] = by_first if word == FIRST else by_second
            follows[(i, j, SECOND)] = by_second if word == SECOND else by_first
    return follows
