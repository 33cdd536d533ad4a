"""Boards: two rounds of letters, a rule for who steps, and the going by it."""

from roundfence.errors import NoLast, NoPlace, NoRound, NoRow, NoTicks

FIRST = "first"
SECOND = "second"
OTHER = "other"


class Board:
    """Two rounds of letters and a rule that tells who steps where."""

    def __init__(self, first, second, rule):
        check_rounds(first, second)
        self._first = first
        self._second = second
        self._words = words_by_pair(rule)

    def first(self):
        """The first round's letters."""
        return self._first

    def second(self):
        """The second round's letters."""
        return self._second

    def rule(self):
        """A new list of the rows that were handed in, by their pairs."""
        return [(a, b, word) for (a, b), word in sorted(self._words.items())]

    def word(self, i, j):
        """Who steps at a place: first, second or other."""
        # Not left to the texts: an index below 0 would count from the round's end.
        if not (0 <= i < len(self._first) and 0 <= j < len(self._second)):
            raise NoPlace((i, j))
        return self._words.get((self._first[i], self._second[j]), OTHER)

    def go(self, standing, ticks):
        """The standing behind the ticks, and the steps of each reader by then."""
        check_standing(self, standing)
        if ticks < 0:
            raise NoTicks(ticks)
        path = path_from(self, standing, ticks)
        if ticks < len(path):
            firsts = first_steps(path[1:ticks + 1])
            return path[ticks], firsts, ticks - firsts
        # The path stops where it comes again, so the rest is the same trip over and over.
        start = path.index(path[-1])
        trip = path[start + 1:]
        times, over = divmod(ticks - start, len(trip))
        firsts = first_steps(path[1:start + over + 1]) + times * first_steps(trip)
        return path[start + over], firsts, ticks - firsts

    def __eq__(self, other):
        return (isinstance(other, Board) and self._first == other._first
                and self._second == other._second and self._words == other._words)

    def __ne__(self, other):
        return not self == other


def check_rounds(first, second):
    """Refuse the first of the two rounds that has no letters."""
    if first == "":
        raise NoRound(1)
    if second == "":
        raise NoRound(2)


def words_by_pair(rule):
    """A dict from each row's pair of letters to its word."""
    words = {}
    for number, (a, b, word) in enumerate(rule):
        if word not in (FIRST, SECOND, OTHER) or (a, b) in words:
            raise NoRow(number)
        words[(a, b)] = word
    return words


def check_standing(board, standing):
    """Refuse a standing whose place the board does not have, then one of no last."""
    i, j, last = standing
    board.word(i, j)
    if last not in (FIRST, SECOND):
        raise NoLast(last)


def tick(board, standing):
    """The standing that follows a standing of the board."""
    i, j, last = standing
    word = board.word(i, j)
    if word == FIRST or (word == OTHER and last == SECOND):
        return (i + 1) % len(board.first()), j, FIRST
    return i, (j + 1) % len(board.second()), SECOND


def path_from(board, standing, ticks):
    """The standings of a walk, to the last tick or the first that comes again, it too."""
    path = [standing]
    seen = set()
    while len(path) <= ticks and path[-1] not in seen:
        seen.add(path[-1])
        path.append(tick(board, path[-1]))
    return path


def first_steps(standings):
    """How many of the standings the first reader's step has led to."""
    return len([last for _, _, last in standings if last == FIRST])
