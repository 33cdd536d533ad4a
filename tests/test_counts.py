"""Points [14], [15], and of points [2], [3] what holds for these."""

import unittest

from roundfence import counts as counts_file
from roundfence.boards import Board
from roundfence.counts import rounds_by, turned
from roundfence.errors import NoLast, NoPlace, NoTicks
from roundfence.fences import fences
from roundfence.trips import comes_to, pace, trips
from tests.plain import (LASTS, WORDS, PromptCase, RefusalCase, long_triples, plain_rounds_by, plain_rounds_far,
                         plain_standings, plain_tick, small_triples)

PAIRS = [(a, b) for a in "abcdef" for b in "abcdef"]
ABOUT = {"first": "second", "second": "first", "other": "other"}
MANY = 987654321098765432109876543210987654321098765432109876543210


def about(standing):
    i, j, last = standing
    return (j, i, ABOUT[last])


class InterfaceTest(unittest.TestCase):

    def test_the_functions_are_defined_in_their_file(self):
        for function in (turned, rounds_by):
            self.assertEqual(function.__module__, counts_file.__name__)

    def test_arguments_go_by_name(self):
        board = Board("aaa", "ab", [("a", "b", "first")])
        self.assertEqual(turned(board=board), turned(board))
        told = rounds_by(board, (0, 0, "first"), 7)
        self.assertEqual(rounds_by(board=board, standing=(0, 0, "first"), rounds=7), told)
        self.assertEqual(rounds_by(rounds=7, standing=(0, 0, "first"), board=board), told)
        self.assertEqual(rounds_by(board, (0, 0, "first"), rounds=7), told)

    def test_the_kinds_that_are_told(self):
        self.assertIs(type(turned(Board("a", "b", []))), Board)
        board = Board("aaa", "ab", [])
        for rounds in (0, 1, 4, MANY):
            self.assertIs(type(rounds_by(board, (0, 0, "first"), rounds)), int)
        board = Board("aaa", "ab", [(a, b, "second") for a, b in PAIRS])
        self.assertIsNone(rounds_by(board, (0, 0, "first"), 1))


class TurnedTest(PromptCase):

    def test_by_hand(self):
        rows = [("a", "b", "first"), ("a", "c", "second"), ("b", "b", "other")]
        board = turned(Board("aba", "bcb", rows))
        self.assertEqual(board.first(), "bcb")
        self.assertEqual(board.second(), "aba")
        self.assertEqual(board.rule(), [("b", "a", "second"), ("b", "b", "other"), ("c", "a", "first")])
        self.assertEqual(board, Board("bcb", "aba", [("b", "a", "second"), ("c", "a", "first"), ("b", "b", "other")]))

    def test_rounds_of_unlike_lengths(self):
        board = turned(Board("abcdef", "a", []))
        self.assertEqual((board.first(), board.second(), board.rule()), ("a", "abcdef", []))
        board = turned(Board("f", "ab" * 20, [("f", "b", "first")]))
        self.assertEqual((board.first(), board.second()), ("ab" * 20, "f"))
        self.assertEqual(board.rule(), [("b", "f", "second")])

    def test_rows_of_letters_that_no_round_has_go_along(self):
        rows = [("c", "d", "first"), ("f", "a", "other"), ("e", "e", "second")]
        told = [("a", "f", "other"), ("d", "c", "second"), ("e", "e", "first")]
        self.assertEqual(turned(Board("a", "b", rows)).rule(), told)

    def test_rows_with_other_go_along(self):
        rows = [(a, b, "other") for a, b in PAIRS]
        self.assertEqual(turned(Board("ab", "c", rows)).rule(), rows)
        self.assertNotEqual(turned(Board("ab", "c", rows)), turned(Board("ab", "c", [])))

    def test_a_rule_of_all_pairs(self):
        rows = [(a, b, WORDS[(ord(a) + 2 * ord(b)) % 3]) for a, b in PAIRS]
        told = turned(Board("ab", "cd", rows)).rule()
        self.assertEqual(told, sorted((b, a, ABOUT[word]) for a, b, word in rows))

    def test_twice_is_the_board(self):
        for triple in small_triples() + long_triples():
            board = Board(*triple)
            self.assertEqual(turned(turned(board)), board)
            self.assertIsNot(turned(board), board)

    def test_the_words_of_its_places(self):
        for triple in small_triples()[::3]:
            board = Board(*triple)
            other = turned(board)
            for i in range(len(triple[0])):
                for j in range(len(triple[1])):
                    self.assertEqual(other.word(j, i), ABOUT[board.word(i, j)], triple)

    def test_its_pace_and_its_trips_and_fences(self):
        for triple in small_triples() + long_triples()[::2]:
            board = Board(*triple)
            other = turned(board)
            p, q = pace(board)
            self.assertEqual(pace(other), (q, p), triple)
            there = sorted(sorted(about(standing) for standing in trip) for trip in trips(board))
            self.assertEqual(sorted(sorted(trip) for trip in trips(other)), there, triple)
            there = sorted(sorted((j, i) for i, j in fence) for fence in fences(board))
            self.assertEqual(sorted(sorted(fence) for fence in fences(other)), there, triple)

    def test_its_walks(self):
        for triple in small_triples()[::9]:
            board = Board(*triple)
            other = turned(board)
            for standing in plain_standings(triple)[::5]:
                for ticks in (0, 1, 2, 30, MANY):
                    at, firsts, seconds = board.go(standing, ticks)
                    self.assertEqual(other.go(about(standing), ticks), (about(at), seconds, firsts))


class RoundsByTest(RefusalCase):

    def test_by_hand(self):
        # All other: step by step, the first one's rounds of three letters, the second one's of two.
        board = Board("aaa", "ab", [])
        told = [rounds_by(board, (0, 0, "first"), rounds) for rounds in range(7)]
        self.assertEqual(told, [0, 1, 3, 4, 6, 7, 9])
        # Here the second reader has a step less by then, since the first one begins.
        told = [rounds_by(board, (0, 0, "second"), rounds) for rounds in range(7)]
        self.assertEqual(told, [0, 1, 2, 4, 5, 7, 8])

    def test_whole_rounds_are_of_steps_wherever_the_second_reader_stands(self):
        board = Board("a", "bbb", [])
        for j in range(3):
            told = [rounds_by(board, (0, j, "first"), rounds) for rounds in range(8)]
            self.assertEqual(told, [0, 0, 0, 1, 1, 1, 2, 2])

    def test_no_tick_behind_the_one_with_which_it_is_so(self):
        # From (0, 0): the second reader thrice, the first one, the second one, the first one.
        board = Board("ac", "aaab", [("a", "a", "second"), ("c", "b", "second"), ("a", "b", "first")])
        self.assertEqual(board.go((0, 0, "first"), 6), ((0, 0, "first"), 2, 4))
        # From (1, 0) a round is done with the fifth tick; with the sixth one the second reader's would be, too.
        self.assertEqual(board.go((1, 0, "second"), 5), ((1, 3, "first"), 2, 3))
        self.assertEqual(board.go((1, 0, "second"), 6), ((1, 0, "second"), 2, 4))
        self.assertEqual([rounds_by(board, (1, 0, "second"), rounds) for rounds in range(4)], [0, 0, 1, 2])
        self.assertEqual([rounds_by(board, (0, 0, "first"), rounds) for rounds in range(4)], [0, 1, 2, 3])

    def test_none_where_they_never_do(self):
        board = Board("abc", "ab", [(a, b, "second") for a, b in PAIRS])
        for standing in plain_standings(("abc", "ab", [])):
            self.assertEqual(rounds_by(board, standing, 0), 0)
            for rounds in (1, 2, 40, MANY):
                self.assertIsNone(rounds_by(board, standing, rounds))

    def test_some_steps_but_never_a_round(self):
        rows = [(a, b, "second" if a == "c" else "first") for a in "abc" for b in "ab"]
        board = Board("abc", "ab", rows)
        self.assertEqual(board.go((0, 0, "first"), MANY)[1], 2)
        self.assertEqual(rounds_by(board, (0, 0, "first"), 0), 0)
        self.assertIsNone(rounds_by(board, (0, 0, "first"), 1))
        self.assertIsNone(rounds_by(board, (2, 1, "first"), 1))

    def test_none_on_all_boards_without_rounds_of_the_first_reader(self):
        counted = 0
        for triple in small_triples():
            board = Board(*triple)
            if pace(board)[0] == 0:
                counted += 1
                for standing in plain_standings(triple):
                    told = [plain_rounds_by(triple, standing, rounds) for rounds in range(3)]
                    self.assertEqual([rounds_by(board, standing, rounds) for rounds in range(3)], told, triple)
                    self.assertIsNone(rounds_by(board, standing, MANY))
        self.assertTrue(counted > 9)

    def test_small_boards_against_plain_going(self):
        for triple in small_triples():
            board = Board(*triple)
            for standing in plain_standings(triple)[::4]:
                for rounds in (0, 1, 2, 3, 7):
                    told = plain_rounds_by(triple, standing, rounds)
                    self.assertEqual(rounds_by(board, standing, rounds), told, (triple, standing, rounds))

    def test_each_number_of_rounds_of_some_walks(self):
        for triple in small_triples()[::37]:
            board = Board(*triple)
            for standing in plain_standings(triple)[-2:]:
                for rounds in range(30):
                    told = plain_rounds_by(triple, standing, rounds)
                    self.assertEqual(rounds_by(board, standing, rounds), told, (triple, standing, rounds))

    def test_far_numbers_against_doubling(self):
        for triple in small_triples()[::23] + long_triples():
            board = Board(*triple)
            for rounds in (MANY, 10 ** 20 + 3):
                far = plain_rounds_far(triple, rounds)
                for standing in list(far)[::1 + len(far) // 3]:
                    self.assertEqual(rounds_by(board, standing, rounds), far[standing], (triple, standing, rounds))

    def test_far_numbers_by_hand(self):
        board = Board("aaa", "ab", [])
        self.assertEqual(rounds_by(board, (0, 0, "first"), 2 * 10 ** 59), 3 * 10 ** 59)
        self.assertEqual(rounds_by(board, (0, 0, "second"), 2 * 10 ** 59), 3 * 10 ** 59 - 1)
        board = Board("a" * 40, "b", [(a, b, "first") for a, b in PAIRS])
        self.assertEqual(rounds_by(board, (7, 0, "second"), 10 ** 60 - 1), 0)

    def test_within_one_round_and_one_step(self):
        for triple in small_triples() + long_triples()[::3]:
            board = Board(*triple)
            p, q = pace(board)
            if p == 0:
                continue
            length = len(triple[1])
            for standing in plain_standings(triple)[::7 if len(triple[0]) < 20 else 499]:
                for rounds in (1, 2, 3, 50, MANY):
                    told = rounds_by(board, standing, rounds)
                    # The steps are below told + 1 rounds and not below told rounds.
                    self.assertTrue((told * length - length - 1) * p < rounds * q * length, (triple, standing))
                    self.assertTrue(rounds * q * length < (told * length + 2 * length) * p, (triple, standing))

    def test_the_steps_within_one_round_and_one_step(self):
        for triple in small_triples()[::2]:
            board = Board(*triple)
            p, q = pace(board)
            if p == 0:
                continue
            length = len(triple[1])
            for standing in plain_standings(triple)[::5]:
                at, steps, rounds = standing, [0, 0], 0
                while rounds < 5:
                    at = plain_tick(triple, at)
                    steps[LASTS.index(at[2])] += 1
                    if at[2] == "first" and steps[0] == (rounds + 1) * len(triple[0]):
                        rounds += 1
                        away = abs(steps[1] * p - rounds * q * length)
                        self.assertTrue(away < (length + 1) * p, (triple, standing, rounds))
                        self.assertEqual(rounds_by(board, standing, rounds), steps[1] // length)


class RefusedTest(RefusalCase):

    def setUp(self):
        super().setUp()
        self.board = Board("aba", "ab", [("a", "b", "first")])

    def test_a_place_there_is_not(self):
        for i, j in ((-1, 0), (0, -1), (3, 0), (0, 2), (3, 2), (-3, -2), (50, 0), (2, 2), (0, 50), (MANY, -MANY)):
            for last in LASTS:
                for rounds in (0, 1, MANY):
                    self.refused(NoPlace, (i, j), rounds_by, self.board, (i, j, last), rounds)

    def test_a_last_that_is_neither(self):
        for last in ("other", "", "third", "First", "second "):
            for rounds in (0, 1, MANY):
                self.refused(NoLast, last, rounds_by, self.board, (2, 1, last), rounds)

    def test_rounds_below_0(self):
        for rounds in (-1, -2, -7, -MANY):
            for last in LASTS:
                self.refused(NoTicks, rounds, rounds_by, self.board, (2, 1, last), rounds)
        never = Board("aba", "ab", [(a, b, "second") for a, b in PAIRS])
        self.refused(NoTicks, -1, rounds_by, never, (2, 1, "first"), -1)

    def test_which_goes_first(self):
        self.refused(NoPlace, (3, 0), rounds_by, self.board, (3, 0, "other"), -1)
        self.refused(NoPlace, (0, -1), rounds_by, self.board, (0, -1, "other"), 4)
        self.refused(NoPlace, (0, 2), rounds_by, self.board, (0, 2, "first"), -1)
        self.refused(NoLast, "other", rounds_by, self.board, (0, 0, "other"), -1)
        self.refused(NoLast, "", rounds_by, rounds=-MANY, board=self.board, standing=(2, 1, ""))


class OwnListsTest(RefusalCase):

    ROWS = (("b", "a", "second"), ("a", "a", "first"), ("a", "b", "other"))

    def test_turning_changes_nothing_and_what_is_told_stands_alone(self):
        rows = list(self.ROWS)
        board = Board("aab", "ab", rows)
        other = turned(board)
        kept = turned(Board("aab", "ab", list(self.ROWS)))
        rows.clear()
        other.rule().clear()
        board.rule().append(("f", "f", "first"))
        self.assertEqual(board, Board("aab", "ab", list(self.ROWS)))
        self.assertEqual(other, kept)
        self.assertEqual(turned(board), kept)

    def test_asking_and_what_is_refused_change_nothing(self):
        board = Board("aab", "ab", list(self.ROWS))
        standings = plain_standings(("aab", "ab", []))

        def all_told():
            return ([board.go(each, 9) for each in standings], [comes_to(board, each) for each in standings],
                    [rounds_by(board, each, 5) for each in standings], turned(board).rule(), board.rule())

        told = all_told()
        self.refused(NoPlace, (3, 0), rounds_by, board, (3, 0, "first"), 1)
        self.refused(NoLast, "other", rounds_by, board, (0, 0, "other"), 1)
        self.refused(NoTicks, -1, rounds_by, board, (0, 0, "first"), -1)
        rounds_by(board, (0, 1, "first"), MANY)
        self.assertEqual(all_told(), told)
        self.assertEqual(board, Board("aab", "ab", list(self.ROWS)))


if __name__ == "__main__":
    unittest.main()
