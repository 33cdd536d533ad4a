"""Boards: two rounds of letters, a rule for who steps, and the going by it."""

from roundfence.errors import NoLast, NoPlace, NoRound, NoRow, NoTicks
from roundfence.loops import Ways

FIRST = "first"
SECOND = "second"
OTHER = "other"

# How many standings the walks that a board keeps may have in all.
KEPT = 100000


class Walk:
    """A walk as far as it was asked for, kept so that no tick of it is gone twice."""

    def __init__(self, standing):
        self.origin = standing
        self.at = standing
        # The first reader's steps behind 0, 1, 2 .. ticks: all else follows from these.
        self.firsts = [0]
        # Behind how many ticks there was a standing with which a reader began its round.
        self.begun = {}
        # Once such a one has come again: the ticks behind which it first was, and from then to again.
        self.since = 0
        self.lap = 0

    def begins(self, standing, ticks):
        """Note a standing with which a reader begins its round, and tell whether it has come again."""
        if standing not in self.begun:
            self.begun[standing] = ticks
            return False
        self.since = self.begun[standing]
        self.lap = ticks - self.since
        return True

    def behind(self, ticks):
        """The first reader's steps behind so many ticks, and who stepped last."""
        if ticks == 0:
            return 0, self.origin[2]
        laps = 0
        if ticks >= len(self.firsts):
            # The walk has come again, so the rest is the same trip over and over.
            laps = (ticks - self.since) // self.lap
        at = ticks - laps * self.lap
        firsts = self.firsts[at]
        last = FIRST if firsts > self.firsts[at - 1] else SECOND
        return firsts + laps * (self.firsts[-1] - self.firsts[self.since]), last


class Board:
    """Two rounds of letters and a rule that tells who steps where."""

    def __init__(self, first, second, rule):
        check_rounds(first, second)
        self._first = first
        self._second = second
        self._words = words_by_pair(rule)
        self._walks = {}
        self._ways = {}

    def first(self):
        """The first round's letters."""
        return self._first

    def second(self):
        """The second round's letters."""
        return self._second

    def rule(self):
        """A new list of the rows that were handed in, by their pairs."""
        return [(a, b, word) for (a, b), word in sorted(self._words.items())]

    def word(self, i, j):
        """Who steps at a place: first, second or other."""
        # Not left to the texts: an index below 0 would count from the round's end.
        if not (0 <= i < len(self._first) and 0 <= j < len(self._second)):
            raise NoPlace((i, j))
        return self._words.get((self._first[i], self._second[j]), OTHER)

    def go(self, standing, ticks):
        """The standing behind the ticks, and the steps of each reader by then."""
        walk = self._walks.get(standing)
        if walk is None:
            check_standing(self, standing)
        if ticks < 0:
            raise NoTicks(ticks)
        if walk is None:
            walk = self._new_walk(standing)
        if ticks >= len(walk.firsts) and walk.lap == 0:
            self._walk_on(walk, ticks)
        firsts, last = walk.behind(ticks)
        seconds = ticks - firsts
        i, j, _ = standing
        return ((i + firsts) % len(self._first), (j + seconds) % len(self._second), last), firsts, seconds

    def ways(self, follows_of):
        """The ways by the dict that a function makes of this board, worked out but once."""
        if follows_of not in self._ways:
            self._ways[follows_of] = Ways(follows_of(self))
        return self._ways[follows_of]

    def _new_walk(self, standing):
        """A walk of no ticks yet, kept for whoever asks for more of it."""
        standings = 2 * len(self._first) * len(self._second)
        if (len(self._walks) + 1) * standings > KEPT:
            self._walks = {}
        i, j, last = standing
        # Its own tuple, so that nothing that was handed in is kept.
        own = (i, j, last)
        walk = Walk(own)
        self._walks[own] = walk
        return walk

    def _walk_on(self, walk, ticks):
        """Go on with a walk to so many ticks, or to where it comes again."""
        first, second, words = self._first, self._second, self._words
        a, b = len(first), len(second)
        i, j, last = walk.at
        firsts = walk.firsts[-1]
        known = len(walk.firsts)
        # Behind as many ticks as there are standings it is in its trip, and soon begins a round again.
        most = 2 * a * b + a + b
        for gone in range(known, min(ticks, most) + 1):
            word = words.get((first[i], second[j]), OTHER)
            if word == FIRST or (word == OTHER and last == SECOND):
                i += 1
                firsts += 1
                last = FIRST
            else:
                j += 1
                last = SECOND
            walk.firsts.append(firsts)
            # Each trip goes round, so it is enough to look where a reader begins its round.
            if i == a or j == b:
                i, j = i % a, j % b
                if walk.begins((i, j, last), gone):
                    return
        walk.at = (i, j, last)

    def __eq__(self, other):
        return (isinstance(other, Board) and self._first == other._first
                and self._second == other._second and self._words == other._words)

    def __ne__(self, other):
        return not self == other


def check_rounds(first, second):
    """Refuse the first of the two rounds that has no letters."""
    if first == "":
        raise NoRound(1)
    if second == "":
        raise NoRound(2)


def words_by_pair(rule):
    """A dict from each row's pair of letters to its word."""
    words = {}
    for number, (a, b, word) in enumerate(rule):
        if word not in (FIRST, SECOND, OTHER) or (a, b) in words:
            raise NoRow(number)
        words[(a, b)] = word
    return words


def check_standing(board, standing):
    """Refuse a standing whose place the board does not have, then one of no last."""
    i, j, last = standing
    board.word(i, j)
    if last not in (FIRST, SECOND):
        raise NoLast(last)
