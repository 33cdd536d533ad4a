"""Point [16], and of points [2], [3] what holds for it."""

import unittest
from math import gcd

from roundfence import over as over_file
from roundfence.boards import Board
from roundfence.errors import NoTimes
from roundfence.fences import fences
from roundfence.over import said_over
from roundfence.trips import pace, trips
from tests.plain import Picks, PromptCase, RefusalCase, long_triples, plain_trips, small_triples

PAIRS = [(a, b) for a in "abcdef" for b in "abcdef"]
MANY = 987654321098765432109876543210
MORE = 123456789012345678901234567890
ODD = [("a", "b", "second")]


def plain_told(triple):
    """What is told of rounds that are written out."""
    found = plain_trips(triple)
    steps = [[last for _, _, last in trip] for trip in found]
    paces = {(lasts.count("first") // len(triple[0]), lasts.count("second") // len(triple[1])) for lasts in steps}
    assert len(paces) == 1
    return (paces.pop(), len(found))


def by_marks(told, s, t):
    """What is told of rounds said over, by the marks that all trips leave in a column and in a row.

    The long board has in a column those of a column of the short one t times, in a row s times.
    """
    (p, q), many = told
    both = gcd(p * t, q * s)
    return ((p * t // both, q * s // both), many * both)


class InterfaceTest(unittest.TestCase):

    def test_the_function_is_defined_in_its_file(self):
        self.assertEqual(said_over.__module__, over_file.__name__)

    def test_arguments_go_by_name(self):
        board = Board("aaaaa", "ab", ODD)
        told = said_over(board, 2, 3)
        self.assertNotEqual(told, said_over(board, 3, 2))
        self.assertEqual(said_over(board=board, times_first=2, times_second=3), told)
        self.assertEqual(said_over(times_second=3, times_first=2, board=board), told)
        self.assertEqual(said_over(board, 2, times_second=3), told)

    def test_the_kinds_that_are_told(self):
        for s, t in ((1, 1), (2, 3), (MANY, MORE)):
            told = said_over(Board("aaa", "ab", []), s, t)
            self.assertEqual([type(told), type(told[0])], [tuple, tuple])
            self.assertEqual([type(each) for each in told[0] + told[1:]], [int, int, int])


class SaidOverTest(PromptCase):

    def test_by_hand(self):
        # Its one trip goes round the first one once and round the second one five times.
        board = Board("aaaaa", "ab", ODD)
        self.assertEqual(said_over(board, 1, 1), ((1, 5), 1))
        self.assertEqual(said_over(board, 2, 1), ((1, 10), 1))
        self.assertEqual(said_over(board, 1, 2), ((2, 5), 1))
        self.assertEqual(said_over(board, 1, 5), ((1, 1), 5))
        self.assertEqual(said_over(board, 2, 5), ((1, 2), 5))
        self.assertEqual(said_over(board, 3, 10), ((2, 3), 5))
        self.assertEqual(said_over(board, 6, 6), ((1, 5), 6))

    def test_all_other_by_hand(self):
        board = Board("aa", "aa", [])
        self.assertEqual(said_over(board, 1, 1), ((1, 1), 2))
        self.assertEqual(said_over(board, 2, 1), ((1, 2), 2))
        self.assertEqual(said_over(board, 1, 2), ((2, 1), 2))
        self.assertEqual(said_over(board, 4, 6), ((3, 2), 4))
        self.assertEqual(said_over(Board("a", "b", []), 3, 3), ((1, 1), 3))

    def test_a_pace_with_0_in_it(self):
        rows = [(a, b, "first") for a, b in PAIRS]
        for s, t in ((1, 1), (1, 7), (7, 1), (4, 6), (MANY, MORE)):
            self.assertEqual(said_over(Board("abc", "ab", rows), s, t), ((1, 0), 2 * t))
        rows = [(a, b, "second") for a, b in PAIRS]
        for s, t in ((1, 1), (1, 7), (7, 1), (4, 6), (MANY, MORE)):
            self.assertEqual(said_over(Board("abc", "ab", rows), s, t), ((0, 1), 3 * s))

    def test_once_each_is_the_boards_own(self):
        for triple in small_triples() + long_triples():
            board = Board(*triple)
            self.assertEqual(said_over(board, 1, 1), (pace(board), len(trips(board))), triple)

    def test_written_out_against_plain_going(self):
        compared = 0
        for triple in small_triples()[::3]:
            first, second, rows = triple
            board = Board(*triple)
            for s in range(1, 7):
                for t in range(1, 7):
                    if len(first) * s * len(second) * t <= 60:
                        told = plain_told((first * s, second * t, rows))
                        self.assertEqual(said_over(board, s, t), told, (triple, s, t))
                        compared += 1
        self.assertTrue(compared > 800)

    def test_written_out_up_to_forty_letters(self):
        compared = 0
        picks = Picks(16)
        for triple in small_triples()[::29] + [picks.triple(20) for _ in range(15)]:
            first, second, rows = triple
            board = Board(*triple)
            for s, t in ((1, 2), (2, 2), (2, 3), (3, 1), (4, 6), (5, 5), (6, 4), (6, 6)):
                if len(first) * s <= 40 and len(second) * t <= 40:
                    long = Board(first * s, second * t, rows)
                    told = (pace(long), len(trips(long)))
                    self.assertEqual(said_over(board, s, t), told, (triple, s, t))
                    self.assertEqual(len(fences(long)), told[1])
                    compared += 1
        self.assertTrue(compared > 100)

    def test_said_over_of_a_board_that_is_written_out(self):
        for first, second, rows in small_triples()[::31]:
            board = Board(first, second, rows)
            for s, t in ((1, 1), (1, 3), (2, 2), (3, 2)):
                if len(first) * s <= 40 and len(second) * t <= 40:
                    long = Board(first * s, second * t, rows)
                    for more_s, more_t in ((1, 1), (2, 1), (1, 4), (5, 6), (MANY, 7)):
                        told = said_over(board, s * more_s, t * more_t)
                        self.assertEqual(said_over(long, more_s, more_t), told, (first, second, rows, s, t))

    def test_thirty_figures_by_hand(self):
        board = Board("aaaaa", "ab", ODD)
        self.assertEqual(said_over(board, MANY, MANY), ((1, 5), MANY))
        self.assertEqual(said_over(board, 10 ** 29, 10 ** 29 - 1), ((10 ** 29 - 1, 5 * 10 ** 29), 1))
        self.assertEqual(said_over(board, 2 ** 96, 5 * 3 ** 50), ((3 ** 50, 2 ** 96), 5))

    def test_thirty_figures_by_the_marks(self):
        for triple in small_triples()[::5] + long_triples():
            board = Board(*triple)
            once = (pace(board), len(trips(board)))
            for s, t in ((MANY, MORE), (MORE, MANY), (MANY, 1), (1, MORE), (2 ** 90, 6 ** 38), (10 ** 29, 10 ** 29)):
                told = said_over(board, s, t)
                self.assertEqual(told, by_marks(once, s, t), (triple, s, t))
                self.assertEqual(gcd(told[0][0], told[0][1]), 1)

    def test_small_numbers_by_the_marks(self):
        for triple in small_triples()[::4] + long_triples()[::2]:
            board = Board(*triple)
            once = (pace(board), len(trips(board)))
            for s in (1, 2, 3, 4, 12, 30):
                for t in (1, 2, 5, 6, 12, 28):
                    self.assertEqual(said_over(board, s, t), by_marks(once, s, t), (triple, s, t))


class RefusedTest(RefusalCase):

    def test_less_than_once(self):
        board = Board("ab", "a", [("a", "a", "first")])
        for less in (0, -1, -2, -7, -MANY):
            for other in (1, 2, 6, MANY):
                self.refused(NoTimes, (less, other), said_over, board, less, other)
                self.refused(NoTimes, (other, less), said_over, board, other, less)
                self.refused(NoTimes, (other, less), said_over, times_second=less, times_first=other, board=board)

    def test_both_less_than_once(self):
        board = Board("ab", "a", [])
        for s in (0, -1, -MANY):
            for t in (0, -1, -5, -MANY):
                self.refused(NoTimes, (s, t), said_over, board, s, t)

    def test_of_a_pace_with_0_in_it(self):
        for word in ("first", "second"):
            board = Board("ab", "a", [(a, b, word) for a, b in PAIRS])
            for s, t in ((0, 1), (1, 0), (0, 0), (-3, 2), (2, -3)):
                self.refused(NoTimes, (s, t), said_over, board, s, t)

    def test_what_is_refused_changes_nothing(self):
        board = Board("aaaaa", "ab", ODD)
        told = (said_over(board, 2, 3), trips(board), fences(board), pace(board), board.rule())
        self.refused(NoTimes, (0, 3), said_over, board, 0, 3)
        self.refused(NoTimes, (2, -3), said_over, board, 2, -3)
        self.assertEqual((said_over(board, 2, 3), trips(board), fences(board), pace(board), board.rule()), told)


class ChangesNothingTest(PromptCase):

    def test_asking_changes_nothing(self):
        for triple in small_triples()[::61]:
            board, other = Board(*triple), Board(*triple)
            told = self.all_told(board)
            said = [said_over(board, s, t) for s in (1, 3, MANY) for t in (1, 2, MORE)]
            for found in trips(board) + fences(board):
                found.clear()
            self.assertEqual([said_over(board, s, t) for s in (1, 3, MANY) for t in (1, 2, MORE)], said)
            self.assertEqual(self.all_told(board), told)
            self.assertEqual(board, other)

    def all_told(self, board):
        return (trips(board), fences(board), pace(board), board.rule(), board.first(), board.second())


if __name__ == "__main__":
    unittest.main()
