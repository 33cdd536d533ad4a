"""Around: how trips and fences stand around a Board, and where two walks come together."""

from roundfence.boards import FIRST, OTHER, SECOND, check_standing, tick
from roundfence.errors import NoPlace
from roundfence.fences import fences
from roundfence.trips import comes_to, trips

TRIP = "trip"
FENCE = "fence"


def column(board, i):
    """The marks (j, kind, number) of all trips and fences at the cut right of the place i."""
    if not 0 <= i < len(board.first()):
        raise NoPlace((i, None))
    return by_place(trip_marks(board, FIRST, i), fence_marks(board, FIRST, i))


def row(board, j):
    """The marks (i, kind, number) of all trips and fences at the cut above the place j."""
    if not 0 <= j < len(board.second()):
        raise NoPlace((None, j))
    return by_place(trip_marks(board, SECOND, j), fence_marks(board, SECOND, j))


def meet(board, one, other):
    """Where the walk of one first comes into that of the other, or the two trips that part them."""
    check_standing(board, one)
    check_standing(board, other)
    behind = ticks_to(board, other)
    for standing, ticks in ticks_to(board, one).items():
        if standing in behind:
            return "together", ticks, behind[standing]
    return "apart", comes_to(board, one)[0], comes_to(board, other)[0]


def trip_marks(board, reader, at):
    """The marks of all trips where the reader steps on from a place of its round."""
    own = own_part(reader)
    return [
        (standing[1 - own], TRIP, number)
        for number, trip in enumerate(trips(board))
        for standing in trip
        if standing[own] == at and tick(board, standing)[2] == reader
    ]


def fence_marks(board, reader, at):
    """The marks of all fences where the reader steps back from a place of its round."""
    own = own_part(reader)
    return [
        (place[1 - own], FENCE, number)
        for number, fence in enumerate(fences(board))
        for place in fence
        if place[own] == at and board.word(place[0], place[1]) in (reader, OTHER)
    ]


def own_part(reader):
    """Which part of a place or of a standing is of the reader's own round."""
    return 0 if reader == FIRST else 1


def by_place(crossed, barred):
    """The marks of trips and of fences by their places, at one place the trip's ahead."""
    # Sorting leaves marks of one place in the order in which they stand here.
    return sorted(crossed + barred, key=lambda mark: mark[0])


def ticks_to(board, standing):
    """A dict from each standing of a walk, in its order, to the least ticks until it is there."""
    ticks = {}
    at = standing
    while at not in ticks:
        ticks[at] = len(ticks)
        at = tick(board, at)
    return ticks
