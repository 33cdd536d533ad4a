"""Around: how trips and fences stand around a Board, and where two walks come together."""

from roundfence.boards import FIRST, OTHER, SECOND
from roundfence.errors import NoPlace
from roundfence.fences import steps_back
from roundfence.trips import ticks_of, way_in

TRIP = "trip"
FENCE = "fence"


def column(board, i):
    """The marks (j, kind, number) of all trips and fences at the cut right of the place i."""
    if not 0 <= i < len(board.first()):
        raise NoPlace((i, None))
    return marks(board, FIRST, [(i, j) for j in range(len(board.second()))])


def row(board, j):
    """The marks (i, kind, number) of all trips and fences at the cut above the place j."""
    if not 0 <= j < len(board.second()):
        raise NoPlace((None, j))
    return marks(board, SECOND, [(i, j) for i in range(len(board.first()))])


def marks(board, reader, places):
    """The marks where the reader steps on, or back, from the places: by these, the trip's ahead."""
    told = []
    for at, place in enumerate(places):
        trip = trip_from(board, reader, place)
        if trip is not None:
            told.append((at, TRIP, trip))
        fence = fence_from(board, reader, place)
        if fence is not None:
            told.append((at, FENCE, fence))
    return told


def trip_from(board, reader, place):
    """The number of the trip on which the reader steps on from the place, or None."""
    ways = board.ways(ticks_of)
    i, j = place
    for last in (FIRST, SECOND):
        # No more than one: of two standings that go on to the same one, one is on no trip.
        if ways.follows[(i, j, last)][2] == reader and ways.loop_at((i, j, last)) is not None:
            return ways.loop_at((i, j, last))
    return None


def fence_from(board, reader, place):
    """The number of the fence on which the reader steps back from the place, or None."""
    i, j = place
    if board.word(i, j) not in (reader, OTHER):
        return None
    return board.ways(steps_back).loop_at(place)


def meet(board, one, other):
    """Where the walk of one first comes into that of the other, or the two trips that part them."""
    number, ticks, spot = way_in(board, one)
    other_number, other_ticks, other_spot = way_in(board, other)
    if number != other_number:
        return "apart", number, other_number
    ways = board.ways(ticks_of)
    if spot == other_spot:
        left = ticks_left(ways.follows, (one, ticks), (other, other_ticks))
        return "together", ticks - left, other_ticks - left
    # They are together nowhere ahead of the trip: in it the other one goes on to where the one came in.
    return "together", ticks, other_ticks + (spot - other_spot) % len(ways.loops[number])


def ticks_left(follows, one, other):
    """How many ticks are left to the trip where two walks that come into it at one spot come together."""
    at, left = one
    other_at, other_left = other
    while at != other_at:
        most = max(left, other_left)
        if left == most:
            at = follows[at]
            left -= 1
        if other_left == most:
            other_at = follows[other_at]
            other_left -= 1
    return left
