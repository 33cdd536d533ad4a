"""Over: the pace and the trips of rounds that are said over, told without going on them."""

from math import gcd, lcm

from roundfence.errors import NoTimes
from roundfence.trips import pace, trips


def said_over(board, times_first, times_second):
    """The pace and the number of trips of the board with each round said over so many times."""
    if times_first < 1 or times_second < 1:
        raise NoTimes((times_first, times_second))
    p, q = pace(board)
    # After so many trips of the board each reader is through its long round a whole number of times.
    rounds = lcm(times_first // gcd(times_first, p), times_second // gcd(times_second, q))
    many = times_first * times_second // rounds * len(trips(board))
    return (rounds * p // times_first, rounds * q // times_second), many
