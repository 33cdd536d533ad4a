"""Points [12], [13], and of points [2], [3] what holds for marks and meetings."""

import unittest

from roundfence import around as around_file
from roundfence.around import column, meet, row
from roundfence.boards import Board
from roundfence.errors import NoLast, NoPlace
from roundfence.fences import fences
from roundfence.trips import comes_to, pace, trips
from tests.plain import (LASTS, WORDS, PromptCase, RefusalCase, long_triples, plain_column, plain_fences, plain_meet,
                         plain_row, plain_standings, plain_trips, small_triples)

PAIRS = [(a, b) for a in "abcdef" for b in "abcdef"]
FAR = 10 ** 59
TWO = ("abb", "aab", [("a", "a", "first"), ("b", "b", "second")])
APART = ("aaa", "ab", [("a", "b", "second"), ("a", "a", "second")])


def named(marks):
    """What the marks are of, in their order."""
    return [(kind, number) for _, kind, number in marks]


def turned_to_least(marks):
    """The same going round, told from its least mark on."""
    return min(marks[at:] + marks[:at] for at in range(len(marks)))


class InterfaceTest(unittest.TestCase):

    def test_the_functions_are_defined_in_their_file(self):
        for function in (column, row, meet):
            self.assertEqual(function.__module__, around_file.__name__)

    def test_arguments_go_by_name(self):
        board = Board(*TWO)
        self.assertEqual(column(board=board, i=1), column(board, 1))
        self.assertEqual(column(i=2, board=board), column(board, i=2))
        self.assertEqual(row(board=board, j=1), row(board, 1))
        self.assertEqual(row(j=2, board=board), row(board, j=2))
        board = Board("ab", "a", [("a", "a", "first")])
        self.assertEqual(meet(board=board, one=(0, 0, "second"), other=(0, 0, "first")), ("together", 1, 1))
        self.assertEqual(meet(other=(0, 0, "second"), one=(1, 0, "first"), board=board), ("together", 0, 1))

    def test_the_kinds_that_are_told(self):
        board = Board(*TWO)
        for marks in (column(board, 0), row(board, 0)):
            self.assertIs(type(marks), list)
            self.assertEqual({type(mark) for mark in marks}, {tuple})
            self.assertEqual({tuple(type(each) for each in mark) for mark in marks}, {(int, str, int)})
        told = meet(board, (0, 0, "first"), (0, 1, "first"))
        self.assertIs(type(told), tuple)
        self.assertEqual([type(each) for each in told], [str, int, int])


class MarksTest(RefusalCase):

    def test_columns_by_hand(self):
        board = Board(*TWO)
        self.assertEqual(column(board, 0), [(0, "trip", 0), (0, "fence", 0), (1, "trip", 1), (2, "fence", 1)])
        self.assertEqual(column(board, 1), [(0, "trip", 1), (0, "fence", 1), (1, "trip", 0), (1, "fence", 0)])
        self.assertEqual(column(board, 2), [(0, "trip", 0), (0, "fence", 0), (1, "trip", 1), (1, "fence", 1)])

    def test_rows_by_hand(self):
        board = Board(*TWO)
        self.assertEqual(row(board, 0), [(1, "trip", 0), (1, "fence", 1), (2, "trip", 1), (2, "fence", 0)])
        self.assertEqual(row(board, 1), [(1, "trip", 1), (1, "fence", 0), (2, "trip", 0), (2, "fence", 1)])
        self.assertEqual(row(board, 2), [(0, "fence", 1), (1, "trip", 1), (1, "fence", 0), (2, "trip", 0)])

    def test_a_fence_that_stands_ahead_of_the_trip(self):
        board = Board("aab", "aba", [("a", "a", "first"), ("b", "a", "second")])
        self.assertEqual(column(board, 0), [(0, "fence", 0), (2, "trip", 0)])
        self.assertEqual(column(board, 2), [(1, "trip", 0), (1, "fence", 0)])
        self.assertEqual(row(board, 1), [(0, "trip", 0), (2, "fence", 0)])

    def test_rounds_of_one_letter(self):
        board = Board("a", "b", [])
        self.assertEqual(column(board, 0), [(0, "trip", 0), (0, "fence", 0)])
        self.assertEqual(row(board, 0), [(0, "trip", 0), (0, "fence", 0)])

    def test_none_where_the_first_reader_does_no_round(self):
        for first, second in (("abc", "ab"), ("a", "b"), ("ab" * 20, "f" * 3)):
            board = Board(first, second, [(a, b, "second") for a, b in PAIRS])
            for i in range(len(first)):
                self.assertEqual(column(board, i), [])
            told = [(i, kind, i) for i in range(len(first)) for kind in ("trip", "fence")]
            for j in range(len(second)):
                self.assertEqual(row(board, j), told)

    def test_none_where_the_second_reader_does_no_round(self):
        for first, second in (("abc", "ab"), ("a", "b"), ("f" * 3, "ab" * 20)):
            board = Board(first, second, [(a, b, "first") for a, b in PAIRS])
            for j in range(len(second)):
                self.assertEqual(row(board, j), [])
            told = [(j, kind, j) for j in range(len(second)) for kind in ("trip", "fence")]
            for i in range(len(first)):
                self.assertEqual(column(board, i), told)
        rows = [("a", "a", "second"), ("a", "b", "first"), ("b", "b", "first"), ("c", "b", "first")]
        board = Board("abc", "ab", rows)
        self.assertEqual([row(board, 0), row(board, 1)], [[], []])
        self.assertEqual(column(board, 1), [(1, "trip", 0), (1, "fence", 0)])

    def test_small_boards_against_plain_going(self):
        for triple in small_triples():
            board = Board(*triple)
            found, barring = plain_trips(triple), plain_fences(triple)
            for i in range(len(triple[0])):
                self.assertEqual(column(board, i), plain_column(triple, found, barring, i), (triple, i))
            for j in range(len(triple[1])):
                self.assertEqual(row(board, j), plain_row(triple, found, barring, j), (triple, j))

    def test_long_boards_against_plain_going(self):
        for triple in long_triples():
            board = Board(*triple)
            found, barring = trips(board), fences(board)
            for at in (0, 1, 17, 38, 39):
                if at < len(triple[0]):
                    self.assertEqual(column(board, at), plain_column(triple, found, barring, at), (triple, at))
                if at < len(triple[1]):
                    self.assertEqual(row(board, at), plain_row(triple, found, barring, at), (triple, at))

    def test_each_marks_as_often_as_the_pace_tells(self):
        for triple in small_triples()[::2] + long_triples()[::2]:
            board = Board(*triple)
            p, q = pace(board)
            each = [(kind, number) for kind in ("trip", "fence") for number in range(len(trips(board)))]
            for at in (0, len(triple[0]) - 1):
                marks = named(column(board, at))
                self.assertEqual([marks.count(one) for one in each], [p] * len(each), triple)
            for at in (0, len(triple[1]) - 1):
                marks = named(row(board, at))
                self.assertEqual([marks.count(one) for one in each], [q] * len(each), triple)

    def test_by_turns(self):
        for triple in small_triples() + long_triples()[::2]:
            board = Board(*triple)
            for marks in (column(board, 0), column(board, len(triple[0]) - 1), row(board, len(triple[1]) - 1)):
                self.assertEqual(marks, sorted(marks, key=lambda mark: (mark[0], mark[1] == "fence")))
                for at, (_, kind, _) in enumerate(marks):
                    self.assertNotEqual(marks[at - 1][1], kind, (triple, marks))

    def test_one_round_of_all_in_all_columns_and_backwards_in_rows(self):
        for triple in small_triples()[::2]:
            board = Board(*triple)
            p, q = pace(board)
            rounds = []
            for marks, times in ([(named(column(board, i)), p) for i in range(len(triple[0]))]
                                 + [(named(row(board, j))[::-1], q) for j in range(len(triple[1]))]):
                one = marks[:2 * len(trips(board))]
                self.assertEqual(marks, one * times, triple)
                if one:
                    rounds.append(turned_to_least(one))
            self.assertEqual(rounds, rounds[:1] * len(rounds), triple)

    def test_refused(self):
        board = Board("aba", "ab", [("a", "b", "first")])
        for i in (-1, 3, 4, -3, 39, 40, FAR, -FAR):
            self.refused(NoPlace, (i, None), column, board, i)
            self.refused(NoPlace, (i, None), column, i=i, board=board)
        for j in (-1, 2, 3, -2, 39, 40, FAR, -FAR):
            self.refused(NoPlace, (None, j), row, board, j)
            self.refused(NoPlace, (None, j), row, j=j, board=board)
        nothing = Board("aba", "ab", [(a, b, "second") for a, b in PAIRS])
        self.refused(NoPlace, (3, None), column, nothing, 3)
        nothing = Board("aba", "ab", [(a, b, "first") for a, b in PAIRS])
        self.refused(NoPlace, (None, 2), row, nothing, 2)

    def test_the_last_places(self):
        board = Board("ab" * 20, "abcde" * 8, [])
        self.assertEqual((len(column(board, 39)), len(row(board, 39))), (80, 80))
        self.refused(NoPlace, (40, None), column, board, 40)
        self.refused(NoPlace, (None, 40), row, board, 40)


class MeetTest(RefusalCase):

    def test_meetings_by_hand(self):
        board = Board("ab", "abc", [("a", "a", "first"), ("b", "a", "second"), ("a", "b", "second")])
        # The trip is (0, 1, first), (0, 2, second), (1, 2, first), (1, 0, second), (1, 1, second).
        self.assertEqual(meet(board, (0, 1, "first"), (0, 1, "first")), ("together", 0, 0))
        self.assertEqual(meet(board, (0, 1, "first"), (1, 0, "second")), ("together", 0, 2))
        self.assertEqual(meet(board, (1, 0, "second"), (0, 1, "first")), ("together", 0, 3))
        # (0, 0, second), (1, 0, first), then (1, 1, second), which is in the trip.
        self.assertEqual(meet(board, (0, 0, "second"), (0, 1, "first")), ("together", 2, 4))
        self.assertEqual(meet(board, (0, 1, "first"), (0, 0, "second")), ("together", 0, 3))
        self.assertEqual(meet(board, (1, 0, "first"), (0, 0, "second")), ("together", 0, 1))
        self.assertEqual(meet(board, (0, 0, "second"), (1, 0, "first")), ("together", 1, 0))
        self.assertEqual(meet(board, (0, 0, "second"), (0, 0, "first")), ("together", 1, 1))

    def test_apart_by_hand(self):
        board = Board(*APART)
        self.assertEqual(meet(board, (0, 0, "second"), (2, 1, "first")), ("apart", 0, 2))
        self.assertEqual(meet(board, (2, 1, "first"), (0, 0, "second")), ("apart", 2, 0))
        self.assertEqual(meet(board, (1, 1, "first"), (1, 0, "first")), ("together", 1, 2))
        board = Board("aa", "aa", [])
        self.assertEqual(meet(board, (0, 0, "first"), (0, 0, "second")), ("apart", 0, 1))
        self.assertEqual(meet(board, (0, 0, "second"), (1, 1, "first")), ("apart", 1, 0))
        self.assertEqual(meet(board, (0, 0, "second"), (1, 1, "second")), ("together", 0, 2))

    def test_small_boards_against_plain_going(self):
        for triple in small_triples()[::4]:
            board = Board(*triple)
            found = plain_trips(triple)
            standings = plain_standings(triple)
            for one in standings[::1 + len(standings) // 9]:
                for other in standings[::1 + len(standings) // 7] + [one]:
                    told = plain_meet(triple, found, one, other)
                    self.assertEqual(meet(board, one, other), told, (triple, one, other))

    def test_what_is_told_is_so(self):
        for triple in small_triples()[::5] + long_triples()[::3]:
            board = Board(*triple)
            standings = plain_standings(triple)
            ways = {}
            for standing in standings[::1 + len(standings) // 6] + standings[-1:]:
                ways[standing] = comes_to(board, standing)[0]
            for one in ways:
                for other in ways:
                    told = meet(board, one, other)
                    if ways[one] == ways[other]:
                        self.assertEqual(told[0], "together")
                        self.assertEqual(board.go(one, told[1])[0], board.go(other, told[2])[0])
                    else:
                        self.assertEqual(told, ("apart", ways[one], ways[other]))

    def test_a_fence_between_those_apart_both_ways_round(self):
        for triple in small_triples()[::3]:
            board = Board(*triple)
            all_marks = [column(board, i) for i in range(len(triple[0]))]
            all_marks += [row(board, j) for j in range(len(triple[1]))]
            for marks in map(named, all_marks):
                at_trips = [at for at, (kind, _) in enumerate(marks) if kind == "trip"]
                for one in at_trips:
                    for other in at_trips:
                        if marks[one] != marks[other]:
                            between = marks[one:other] if one < other else marks[one:] + marks[:other]
                            self.assertIn("fence", [kind for kind, _ in between], triple)

    def test_refused(self):
        board = Board(*APART)
        right = (2, 1, "second")
        for i, j in ((-1, 0), (0, -1), (3, 0), (0, 2), (3, 2), (2, 2), (FAR, 0), (0, -FAR)):
            for last in LASTS + ("other", ""):
                self.refused(NoPlace, (i, j), meet, board, (i, j, last), right)
                self.refused(NoPlace, (i, j), meet, board, right, (i, j, last))
                self.refused(NoPlace, (i, j), meet, board=board, other=(i, j, last), one=right)
        for last in ("other", "", "third", "First", "second "):
            self.refused(NoLast, last, meet, board, (2, 1, last), right)
            self.refused(NoLast, last, meet, board, right, (2, 1, last))

    def test_what_the_first_one_is_refused_for_goes_ahead(self):
        board = Board(*APART)
        self.refused(NoPlace, (3, 0), meet, board, (3, 0, "first"), (0, 2, "first"))
        self.refused(NoPlace, (3, 0), meet, board, (3, 0, "other"), (0, 0, "third"))
        self.refused(NoLast, "other", meet, board, (0, 0, "other"), (0, 2, "first"))
        self.refused(NoLast, "other", meet, board, (0, 0, "other"), (0, 0, "third"))
        self.refused(NoPlace, (0, 2), meet, board, (0, 0, "first"), (0, 2, "third"))
        self.refused(NoLast, "third", meet, board, other=(0, 1, "third"), one=(0, 0, "first"))
        self.refused(NoLast, "other", meet, board, other=(9, 9, "third"), one=(0, 0, "other"))


class OwnListsTest(RefusalCase):

    def all_told(self, board):
        return ([column(board, i) for i in range(3)], [row(board, j) for j in range(2)], fences(board), trips(board),
                meet(board, (0, 0, "first"), (2, 1, "second")), board.rule())

    def test_the_marks_that_are_told_are_the_askers_own(self):
        for rows in ([], [("a", "a", "first")], [(a, b, WORDS[1]) for a, b in PAIRS]):
            board = Board("aab", "ab", rows)
            told = self.all_told(board)
            for ask, at in ((column, 0), (column, 2), (row, 0), (row, 1)):
                one = ask(board, at)
                kept = list(one)
                other = ask(board, at)
                one.append((9, "fence", 9))
                one[0] = (8, "trip", 8)
                self.assertEqual(other, kept)
                other.clear()
                self.assertEqual(ask(board, at), kept)
                self.assertEqual(self.all_told(board), told)
            for lists in self.all_told(board)[:4]:
                for each in lists:
                    each.clear()
                lists.clear()
            self.assertEqual(self.all_told(board), told)
            self.assertEqual(board, Board("aab", "ab", rows))

    def test_what_was_told_stays_as_it_is(self):
        rows = [("a", "a", "first")]
        board = Board("aab", "ab", rows)
        told = column(board, 0), row(board, 1)
        kept = list(told[0]), list(told[1])
        rows.append(("b", "a", "first"))
        meet(board, (0, 0, "first"), (1, 1, "first"))
        column(Board("aab", "ab", rows), 0).clear()
        self.assertEqual(told, kept)
        self.assertEqual((column(board, 0), row(board, 1)), kept)

    def test_what_is_refused_changes_nothing(self):
        board = Board("aab", "ab", [("a", "a", "first")])
        told = self.all_told(board)
        self.refused(NoPlace, (3, None), column, board, 3)
        self.refused(NoPlace, (None, -1), row, board, -1)
        self.refused(NoPlace, (3, 0), meet, board, (3, 0, "first"), (0, 0, "first"))
        self.refused(NoLast, "other", meet, board, (0, 0, "first"), (0, 0, "other"))
        self.assertEqual(self.all_told(board), told)


if __name__ == "__main__":
    unittest.main()
