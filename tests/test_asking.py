"""The whole, of points [2], [3], [4]: what is asked of a board, told or refused, leaves all as it was."""

import copy
import unittest

from roundfence.around import column, meet, row
from roundfence.boards import Board
from roundfence.counts import rounds_by, turned
from roundfence.errors import FenceError
from roundfence.fences import fence_of, fences
from roundfence.over import said_over
from roundfence.readings import read_board
from roundfence.texts import show_board
from roundfence.trips import comes_to, pace, trips
from tests.plain import Picks, PromptCase, plain_standings, small_triples

PAIRS = [(a, b) for a in "abcdef" for b in "abcdef"]
FAR = 10 ** 50
TRIPLES = [
    ("aba", "ab", [("a", "b", "first")]),
    ("abb", "aab", [("a", "a", "first"), ("b", "b", "second"), ("f", "a", "other")]),
    ("aa", "aa", []),
    ("abc", "ab", [(a, b, "second") for a, b in PAIRS]),
    ("a", "b", [("a", "b", "first")]),
]


def askings(triple):
    """What may be asked of a board: a call, the names of what it takes beside the board, and that."""
    a, b = len(triple[0]), len(triple[1])
    last_one = (a - 1, b - 1, "second")
    told = [("first", (), ()), ("second", (), ()), ("rule", (), ())]
    told += [(call, (), ()) for call in (trips, pace, fences, turned, show_board)]
    for i, j in ((0, 0), (a - 1, b - 1), (a, 0), (0, b), (-1, 0), (0, -1), (FAR, -FAR)):
        told += [("word", ("i", "j"), (i, j)), (fence_of, ("place",), ((i, j),))]
        told += [(column, ("i",), (i,)), (row, ("j",), (j,))]
    standings = [(0, 0, "first"), last_one, (a, 0, "first"), (0, b, "other"), (0, -1, "second"), (0, 0, "other")]
    for standing in standings:
        told.append((comes_to, ("standing",), (standing,)))
        told += [(meet, ("one", "other"), (standing, other)) for other in standings]
        for number in (0, 1, 5, FAR, -1, -FAR):
            told.append(("go", ("standing", "ticks"), (standing, number)))
            told.append((rounds_by, ("standing", "rounds"), (standing, number)))
    for s, t in ((1, 1), (2, 3), (FAR, 7), (0, 1), (1, -1), (0, 0)):
        told.append((said_over, ("times_first", "times_second"), (s, t)))
    return told


def answer(board, asking, by_name):
    """What is told or refused of a board, and the list that it is, if it is one."""
    call, names, values = asking
    named = dict(zip(names, values)) if by_name else {}
    placed = () if by_name else values
    try:
        if isinstance(call, str):
            told = getattr(board, call)(*placed, **named)
        elif by_name:
            told = call(board=board, **named)
        else:
            told = call(board, *placed)
    except FenceError as why:
        return (type(why).__name__, why.what), None
    return ("told", copy.deepcopy(told) if isinstance(told, list) else told), told


def spoil(told):
    """Change a list that was told, and every list in it."""
    if isinstance(told, list):
        for each in told:
            spoil(each)
        told.reverse()
        told.append("spoilt")
        del told[:1]


class AskingTest(PromptCase):

    def is_as_it_was(self, board, triple):
        first, second, rows = triple
        self.assertEqual((board.first(), board.second(), board.rule()), (first, second, sorted(rows)))
        anew = Board(first, second, rows)
        self.assertTrue(board == anew and anew == board)
        self.assertFalse(board != anew or anew != board)

    def test_behind_each_asking_the_board_is_what_it_was(self):
        for triple in TRIPLES:
            board = Board(*triple)
            for asking in askings(triple):
                for by_name in (False, True):
                    outcome, told = answer(board, asking, by_name)
                    spoil(told)
                    self.is_as_it_was(board, triple)
                    self.assertEqual(answer(Board(*triple), asking, by_name)[0], outcome, (triple, asking))

    def test_some_are_told_and_some_are_refused(self):
        for triple in TRIPLES:
            kinds = [answer(Board(*triple), asking, True)[0][0] for asking in askings(triple)]
            self.assertEqual(sorted(set(kinds)), ["NoLast", "NoPlace", "NoTicks", "NoTimes", "told"])
            self.assertTrue(kinds.count("told") > 25)

    def test_what_was_asked_first_is_told_again(self):
        for triple in TRIPLES[:3]:
            told_of = askings(triple)
            for first in told_of[::3] + told_of[:8]:
                board = Board(*triple)
                outcome, told = answer(board, first, False)
                spoil(told)
                for by_name in (False, True):
                    for asking in told_of:
                        spoil(answer(board, asking, by_name)[1])
                        self.assertEqual(answer(board, first, by_name)[0], outcome, (triple, first, asking))

    def test_asked_in_any_order(self):
        picks = Picks(4)
        for triple in TRIPLES + small_triples()[::67]:
            told_of = askings(triple)
            outcomes = [answer(Board(*triple), asking, False)[0] for asking in told_of]
            board = Board(*triple)
            for _ in range(600):
                at = picks.below(len(told_of))
                outcome, told = answer(board, told_of[at], picks.below(2) == 0)
                self.assertEqual(outcome, outcomes[at], (triple, told_of[at]))
                spoil(told)
            self.is_as_it_was(board, triple)

    def test_what_was_told_stays_as_it_is(self):
        for triple in TRIPLES:
            board = Board(*triple)
            kept = [answer(board, asking, False) for asking in askings(triple)]
            for asking in askings(triple):
                spoil(answer(board, asking, True)[1])
            for (_, outcome), told in kept:
                if isinstance(told, list):
                    self.assertEqual(told, outcome, triple)

    def test_equal_boards_tell_alike_whatever_was_asked_of_either(self):
        for triple in TRIPLES + small_triples()[::83]:
            told_of = askings(triple)
            boards = [Board(*triple), Board(triple[0], triple[1], triple[2][::-1])]
            boards.append(read_board(show_board(boards[0])))
            for asking in told_of[::2]:
                spoil(answer(boards[0], asking, False)[1])
            for standing in plain_standings(triple):
                boards[1].go(standing, FAR)
            for asking in told_of:
                outcomes = [answer(board, asking, False)[0] for board in boards]
                self.assertEqual(outcomes, outcomes[:1] * 3, (triple, asking))
            for board in boards:
                self.assertEqual([board == other for other in boards], [True] * 3)
                self.assertEqual([board != other for other in boards], [False] * 3)

    def test_unlike_boards_are_unlike_whatever_was_asked_of_either(self):
        boards = [Board(*triple) for triple in TRIPLES] + [Board("aa", "aa", [("f", "f", "other")])]
        for _ in range(2):
            for one, board in enumerate(boards):
                for other, another in enumerate(boards):
                    self.assertEqual(board == another, one == other)
                    self.assertEqual(board != another, one != other)
            for triple, board in zip(TRIPLES, boards):
                for asking in askings(triple):
                    answer(board, asking, False)

    def test_a_turned_board_and_its_own_are_two(self):
        for triple in TRIPLES:
            board = Board(*triple)
            about = turned(board)
            told_of = askings((triple[1], triple[0], []))
            for asking in told_of:
                spoil(answer(about, asking, False)[1])
            self.is_as_it_was(board, triple)
            for asking in askings(triple):
                self.assertEqual(answer(board, asking, False)[0], answer(Board(*triple), asking, False)[0])

    def test_a_rule_that_was_handed_in_is_not_changed(self):
        for triple in TRIPLES:
            rows = copy.deepcopy(triple[2])
            board = Board(triple[0], triple[1], rows)
            for asking in askings(triple):
                answer(board, asking, False)
            self.assertEqual(rows, triple[2])
            spoil(rows)
            self.is_as_it_was(board, triple)


if __name__ == "__main__":
    unittest.main()
