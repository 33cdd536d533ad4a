"""Points [5], [6], [7], and of point [2] what holds for a Board."""

import unittest

from roundfence.boards import Board
from roundfence.errors import NoLast, NoPlace, NoRound, NoRow, NoTicks
from tests.plain import (LASTS, WORDS, Picks, RefusalCase, long_triples, plain_far, plain_standings, plain_walk,
                         plain_word, small_triples)

MANY = 987654321098765432109876543210987654321098765432109876543210


class InterfaceTest(unittest.TestCase):

    def test_the_class_itself_defines_its_methods(self):
        for name in ("first", "second", "rule", "word", "go", "__eq__"):
            self.assertIn(name, vars(Board))
        self.assertEqual(Board.__module__, "roundfence.boards")

    def test_arguments_go_by_name(self):
        board = Board(first="ab", second="c", rule=[("a", "c", "first")])
        self.assertEqual(board, Board("ab", "c", [("a", "c", "first")]))
        self.assertEqual(Board(rule=[], second="c", first="ab"), Board("ab", "c", rule=[]))
        self.assertEqual(board.word(i=0, j=0), "first")
        self.assertEqual(board.word(j=0, i=1), "other")
        self.assertEqual(board.go(standing=(0, 0, "second"), ticks=1), ((1, 0, "first"), 1, 0))
        self.assertEqual(board.go((0, 0, "second"), ticks=0), ((0, 0, "second"), 0, 0))


class RoundsAndRulesTest(RefusalCase):

    def test_rounds_are_told(self):
        board = Board("abca", "fe", [])
        self.assertEqual(board.first(), "abca")
        self.assertEqual(board.second(), "fe")

    def test_rounds_of_one_letter_and_of_forty(self):
        board = Board("f", "abcde" * 8, [])
        self.assertEqual((board.first(), board.second()), ("f", "abcde" * 8))
        board = Board("abcde" * 8, "a", [])
        self.assertEqual((board.first(), board.second()), ("abcde" * 8, "a"))

    def test_the_rule_is_told_by_its_pairs(self):
        rows = [("b", "a", "second"), ("a", "b", "first"), ("f", "c", "other"), ("a", "a", "other")]
        told = Board("ab", "ab", rows).rule()
        self.assertEqual(told, [("a", "a", "other"), ("a", "b", "first"), ("b", "a", "second"), ("f", "c", "other")])
        self.assertIs(type(told), list)
        self.assertEqual({type(row) for row in told}, {tuple})

    def test_an_empty_rule(self):
        board = Board("ab", "cd", [])
        self.assertEqual(board.rule(), [])
        self.assertEqual({board.word(i, j) for i in range(2) for j in range(2)}, {"other"})

    def test_a_rule_of_all_pairs(self):
        rows = [(a, b, WORDS[(ord(a) + 2 * ord(b)) % 3]) for a in "abcdef" for b in "abcdef"]
        board = Board("fedcba", "abcdef", rows[::-1])
        self.assertEqual(board.rule(), rows)
        for i in range(6):
            for j in range(6):
                self.assertEqual(board.word(i, j), plain_word(("fedcba", "abcdef", rows), i, j))

    def test_rows_of_letters_that_no_round_has_are_kept(self):
        rows = [("c", "a", "first"), ("e", "f", "second")]
        board = Board("a", "a", rows)
        self.assertEqual(board.rule(), rows)
        self.assertEqual(board.word(0, 0), "other")

    def test_the_first_letter_is_the_first_rounds(self):
        board = Board("ab", "ab", [("a", "b", "first"), ("b", "a", "second")])
        self.assertEqual(board.rule(), [("a", "b", "first"), ("b", "a", "second")])
        self.assertEqual([board.word(i, j) for i in range(2) for j in range(2)],
                         ["other", "first", "second", "other"])

    def test_an_empty_round(self):
        self.refused(NoRound, 1, Board, "", "a", [])
        self.refused(NoRound, 2, Board, "a", "", [])
        self.refused(NoRound, 1, Board, "", "", [])
        self.refused(NoRound, 2, Board, first="abc", second="", rule=[("a", "a", "first")])

    def test_a_word_that_is_none_of_the_three(self):
        for word in ("", "third", "First", "other ", "fir", "both"):
            self.refused(NoRow, 0, Board, "a", "a", [("a", "a", word)])
            self.refused(NoRow, 2, Board, "a", "a", [("a", "b", "first"), ("b", "a", "other"), ("a", "a", word)])
            self.refused(NoRow, 1, Board, "a", "a", [("a", "b", "first"), ("e", "e", word)])

    def test_a_pair_twice(self):
        for word in WORDS:
            for again in WORDS:
                self.refused(NoRow, 1, Board, "a", "a", [("a", "a", word), ("a", "a", again)])
        self.refused(NoRow, 3, Board, "ab", "ab", [("a", "a", "first"), ("b", "a", "first"), ("a", "b", "other"),
                                                   ("b", "a", "second"), ("a", "a", "first")])
        self.refused(NoRow, 2, Board, "a", "a", [("f", "e", "other"), ("e", "f", "first"), ("f", "e", "other")])

    def test_the_first_wrong_row_is_told(self):
        twice_ahead = [("a", "a", "first"), ("a", "a", "first"), ("b", "b", "never")]
        self.refused(NoRow, 1, Board, "a", "a", twice_ahead)
        word_ahead = [("a", "a", "first"), ("b", "b", "never"), ("a", "a", "first")]
        self.refused(NoRow, 1, Board, "a", "a", word_ahead)
        both_in_one = [("a", "a", "first"), ("a", "b", "first"), ("a", "a", "never")]
        self.refused(NoRow, 2, Board, "a", "a", both_in_one)

    def test_an_empty_round_goes_ahead_of_a_wrong_row(self):
        self.refused(NoRound, 1, Board, "", "a", [("a", "a", "never")])
        self.refused(NoRound, 2, Board, "a", "", [("a", "a", "first"), ("a", "a", "first")])
        self.refused(NoRound, 1, Board, "", "", [("a", "a", "never")])


class OwnListsTest(RefusalCase):

    # A tuple, so that a Board that changes what it is handed can't change this one.
    ROWS = (("b", "a", "second"), ("a", "a", "first"), ("a", "b", "other"))

    def board_and_told(self, rows):
        board = Board("aab", "ab", rows)
        return board, self.all_told(board)

    def all_told(self, board):
        told = [board.go(standing, 5) for standing in plain_standings(("aab", "ab", []))]
        return (told, board.rule(), [board.word(i, j) for i in range(3) for j in range(2)])

    def test_what_is_handed_in_is_not_changed(self):
        rows = list(self.ROWS)
        self.board_and_told(rows)
        self.assertEqual(rows, list(self.ROWS))
        wrong = [("b", "a", "first"), ("a", "a", "never")]
        self.refused(NoRow, 1, Board, "a", "a", wrong)
        self.assertEqual(wrong, [("b", "a", "first"), ("a", "a", "never")])

    def test_the_list_that_was_handed_in_is_not_kept(self):
        rows = list(self.ROWS)
        board, told = self.board_and_told(rows)
        rows[1] = ("a", "a", "second")
        rows.append(("b", "b", "first"))
        self.assertEqual(self.all_told(board), told)
        self.assertEqual(board, Board("aab", "ab", list(self.ROWS)))
        rows.clear()
        self.assertEqual(self.all_told(board), told)

    def test_the_rule_that_is_told_is_the_askers_own(self):
        board, told = self.board_and_told(list(self.ROWS))
        one = board.rule()
        other = board.rule()
        self.assertIsNot(one, other)
        one[0] = ("a", "a", "second")
        one.append(("b", "b", "first"))
        self.assertEqual(other, sorted(self.ROWS))
        self.assertEqual(self.all_told(board), told)
        other.clear()
        self.assertEqual(self.all_told(board), told)
        self.assertEqual(board, Board("aab", "ab", list(self.ROWS)))

    def test_what_is_refused_changes_nothing(self):
        board, told = self.board_and_told(list(self.ROWS))
        self.refused(NoPlace, (3, 0), board.word, 3, 0)
        self.refused(NoPlace, (0, 2), board.go, (0, 2, "first"), 1)
        self.refused(NoLast, "other", board.go, (0, 0, "other"), 1)
        self.refused(NoTicks, -1, board.go, (0, 0, "first"), -1)
        self.assertEqual(self.all_told(board), told)

    def test_going_changes_nothing(self):
        board, told = self.board_and_told(list(self.ROWS))
        board.go((2, 1, "first"), MANY)
        self.assertEqual(self.all_told(board), told)
        self.assertEqual(board, Board("aab", "ab", list(self.ROWS)))


class EqualityTest(unittest.TestCase):

    def same(self, one, other):
        self.assertTrue(one == other)
        self.assertTrue(other == one)
        self.assertFalse(one != other)
        self.assertFalse(other != one)

    def unlike(self, one, other):
        self.assertFalse(one == other)
        self.assertFalse(other == one)
        self.assertTrue(one != other)
        self.assertTrue(other != one)

    def test_same_rounds_and_rows(self):
        self.same(Board("ab", "c", []), Board("ab", "c", []))
        rows = [("a", "c", "first"), ("b", "c", "other")]
        self.same(Board("ab", "c", rows), Board("ab", "c", list(rows)))
        board = Board("ab", "c", rows)
        self.same(board, board)

    def test_the_same_rows_in_another_order(self):
        rows = [("a", "c", "first"), ("b", "c", "other"), ("f", "f", "second")]
        for order in ((0, 2, 1), (1, 0, 2), (1, 2, 0), (2, 0, 1), (2, 1, 0)):
            self.same(Board("ab", "c", rows), Board("ab", "c", [rows[at] for at in order]))

    def test_other_rounds(self):
        board = Board("ab", "ab", [])
        self.unlike(board, Board("ba", "ab", []))
        self.unlike(board, Board("ab", "ba", []))
        self.unlike(board, Board("abab", "ab", []))
        self.unlike(board, Board("ab", "a", []))
        self.unlike(Board("ab", "a", []), Board("a", "ab", []))

    def test_other_rows(self):
        board = Board("ab", "ab", [("a", "b", "first")])
        self.unlike(board, Board("ab", "ab", []))
        self.unlike(board, Board("ab", "ab", [("a", "b", "second")]))
        self.unlike(board, Board("ab", "ab", [("b", "a", "first")]))
        self.unlike(board, Board("ab", "ab", [("a", "b", "first"), ("a", "a", "first")]))

    def test_rows_of_other_count(self):
        self.unlike(Board("ab", "ab", []), Board("ab", "ab", [("a", "b", "other")]))
        self.unlike(Board("ab", "ab", [("a", "a", "other")]), Board("ab", "ab", [("a", "b", "other")]))

    def test_rows_of_letters_that_no_round_has_count(self):
        self.unlike(Board("a", "a", []), Board("a", "a", [("b", "a", "first")]))
        self.unlike(Board("a", "a", [("b", "a", "first")]), Board("a", "a", [("b", "a", "second")]))

    def test_a_board_is_no_thing_of_another_kind(self):
        board = Board("a", "b", [])
        for thing in ("a", ("a", "b", []), ["a", "b", []], None, 0):
            self.unlike(board, thing)


class WordTest(RefusalCase):

    def test_words_against_the_rows(self):
        for triple in small_triples():
            first, second, rows = triple
            board = Board(first, second, list(rows))
            for i in range(len(first)):
                for j in range(len(second)):
                    self.assertEqual(board.word(i, j), plain_word(triple, i, j), (triple, i, j))

    def test_a_place_there_is_not(self):
        board = Board("aba", "ab", [("a", "b", "first")])
        wrong = [(-1, 0), (0, -1), (3, 0), (0, 2), (3, 2), (-1, -1), (4, 1), (1, 5), (-3, 0), (0, -2),
                 (2, 2), (100, 100), (-1, 2), (3, -1), (MANY, 0), (0, -MANY)]
        for i, j in wrong:
            self.refused(NoPlace, (i, j), board.word, i, j)
        self.refused(NoPlace, (7, 0), board.word, j=0, i=7)

    def test_the_last_places(self):
        board = Board("aba" + "c" * 37, "ab" * 20, [("c", "b", "second")])
        self.assertEqual(board.word(39, 39), "second")
        self.assertEqual(board.word(39, 38), "other")
        self.refused(NoPlace, (40, 39), board.word, 40, 39)
        self.refused(NoPlace, (39, 40), board.word, 39, 40)

    def test_rounds_of_one_letter(self):
        board = Board("a", "a", [("a", "a", "second")])
        self.assertEqual(board.word(0, 0), "second")
        for i, j in ((1, 0), (0, 1), (-1, 0), (0, -1)):
            self.refused(NoPlace, (i, j), board.word, i, j)


class GoTest(RefusalCase):

    def test_a_walk_by_hand(self):
        board = Board("ab", "abc", [("a", "a", "first"), ("b", "a", "second"), ("a", "b", "second")])
        walk = [
            ((0, 0, "second"), 0, 0),
            ((1, 0, "first"), 1, 0),
            ((1, 1, "second"), 1, 1),
            ((0, 1, "first"), 2, 1),
            ((0, 2, "second"), 2, 2),
            ((1, 2, "first"), 3, 2),
            ((1, 0, "second"), 3, 3),
            ((1, 1, "second"), 3, 4),
        ]
        for ticks, told in enumerate(walk):
            self.assertEqual(board.go((0, 0, "second"), ticks), told)

    def test_what_is_told_is_tuples_of_whole_numbers_and_a_word(self):
        board = Board("ab", "abc", [("a", "a", "first")])
        for ticks in (0, 1, 3, 50, MANY):
            told = board.go((1, 2, "first"), ticks)
            self.assertIs(type(told), tuple)
            self.assertIs(type(told[0]), tuple)
            self.assertEqual([type(each) for each in told[0] + told[1:]], [int, int, str, int, int])

    def test_each_word_with_each_last(self):
        for last in LASTS:
            start = (1, 1, last)
            for rows, told in (
                ([("b", "b", "first")], ((2, 1, "first"), 1, 0)),
                ([("b", "b", "second")], ((1, 2, "second"), 0, 1)),
            ):
                self.assertEqual(Board("abc", "abc", rows).go(start, 1), told)
        for rows in ([], [("b", "b", "other")], [("a", "b", "first"), ("b", "a", "second"), ("c", "c", "first")]):
            board = Board("abc", "abc", rows)
            self.assertEqual(board.go((1, 1, "first"), 1), ((1, 2, "second"), 0, 1))
            self.assertEqual(board.go((1, 1, "second"), 1), ((2, 1, "first"), 1, 0))

    def test_a_step_behind_a_rounds_end(self):
        board = Board("abc", "ab", [("c", "a", "first"), ("a", "b", "second")])
        self.assertEqual(board.go((2, 0, "first"), 1), ((0, 0, "first"), 1, 0))
        self.assertEqual(board.go((0, 1, "second"), 1), ((0, 0, "second"), 0, 1))

    def test_no_ticks(self):
        for triple in small_triples()[::7]:
            board = Board(*triple)
            for standing in plain_standings(triple):
                self.assertEqual(board.go(standing, 0), (standing, 0, 0))

    def test_small_boards_against_plain_going(self):
        for triple in small_triples():
            board = Board(*triple)
            for standing in plain_standings(triple)[::3]:
                # Behind twice as many ticks as there are standings a walk has long been in its trip.
                walk = plain_walk(triple, standing, 4 * len(triple[0]) * len(triple[1]) + 12)
                for ticks in list(range(12)) + list(range(12, len(walk), 5)) + [len(walk) - 1]:
                    self.assertEqual(board.go(standing, ticks), walk[ticks], (triple, standing, ticks))

    def test_every_tick_of_some_walks(self):
        for triple in small_triples()[::11]:
            board = Board(*triple)
            for standing in plain_standings(triple)[-3:]:
                for ticks, told in enumerate(plain_walk(triple, standing, 90)):
                    self.assertEqual(board.go(standing, ticks), told, (triple, standing, ticks))

    def test_all_first_and_all_second(self):
        pairs = [(a, b) for a in "abc" for b in "ab"]
        board = Board("abc", "ab", [(a, b, "first") for a, b in pairs])
        self.assertEqual(board.go((1, 1, "second"), 10), ((2, 1, "first"), 10, 0))
        self.assertEqual(board.go((1, 1, "second"), 3 * 10 ** 59), ((1, 1, "first"), 3 * 10 ** 59, 0))
        board = Board("abc", "ab", [(a, b, "second") for a, b in pairs])
        self.assertEqual(board.go((1, 1, "first"), 11), ((1, 0, "second"), 0, 11))
        self.assertEqual(board.go((1, 1, "first"), 10 ** 59), ((1, 1, "second"), 0, 10 ** 59))

    def test_all_other(self):
        for rows in ([], [("a", "b", "other")]):
            board = Board("a" * 40, "b" * 39, rows)
            self.assertEqual(board.go((0, 0, "first"), 3120), ((0, 0, "first"), 1560, 1560))
            told = ((0, 1, "second"), 1560 * 10 ** 55, 1560 * 10 ** 55 + 1)
            self.assertEqual(board.go((0, 0, "first"), 3120 * 10 ** 55 + 1), told)

    def test_rounds_of_one_letter(self):
        board = Board("a", "a", [])
        self.assertEqual(board.go((0, 0, "first"), 7), ((0, 0, "second"), 3, 4))
        self.assertEqual(board.go((0, 0, "second"), MANY), ((0, 0, "second"), MANY // 2, MANY // 2))
        board = Board("a", "a", [("a", "a", "second")])
        self.assertEqual(board.go((0, 0, "first"), MANY), ((0, 0, "second"), 0, MANY))

    def test_ticks_of_sixty_figures_against_doubling(self):
        triples = small_triples()[::29] + long_triples()
        for triple in triples:
            board = Board(*triple)
            for ticks in (MANY, 10 ** 60 - 1, 10 ** 59):
                far = plain_far(triple, ticks)
                for standing in list(far)[::1 + len(far) // 9]:
                    self.assertEqual(board.go(standing, ticks), far[standing], (triple, standing, ticks))

    def test_long_boards_against_plain_going(self):
        for triple in long_triples():
            board = Board(*triple)
            for standing in ((0, 0, "first"), (0, len(triple[1]) - 1, "second")):
                walk = plain_walk(triple, standing, 7000)
                for ticks in (0, 1, 39, 40, 41, 80, 1599, 1600, 3120, 3199, 3200, 3201, 6400, 7000):
                    self.assertEqual(board.go(standing, ticks), walk[ticks], (triple, standing, ticks))

    def test_going_on_from_where_one_came(self):
        picks = Picks(3)
        for triple in [picks.triple(9) for _ in range(60)]:
            board = Board(*triple)
            standings = plain_standings(triple)
            start = standings[picks.below(len(standings))]
            for m, n in ((5, 8), (1, MANY - 1), (MANY - 40, 40), (10 ** 59 + 7, 3 * 10 ** 59)):
                middle, one, two = board.go(start, m)
                end, more_one, more_two = board.go(middle, n)
                self.assertEqual(board.go(start, m + n), (end, one + more_one, two + more_two))


class GoRefusedTest(RefusalCase):

    def setUp(self):
        super().setUp()
        self.board = Board("aba", "ab", [("a", "b", "first")])

    def test_a_place_there_is_not(self):
        for i, j in ((-1, 0), (0, -1), (3, 0), (0, 2), (3, 2), (-3, -2), (50, 0), (2, 2), (0, 50)):
            for last in LASTS:
                for ticks in (0, 1, MANY):
                    self.refused(NoPlace, (i, j), self.board.go, (i, j, last), ticks)

    def test_a_last_that_is_neither(self):
        for last in ("other", "", "third", "First", "sec", "first "):
            for ticks in (0, 1, MANY):
                self.refused(NoLast, last, self.board.go, (2, 1, last), ticks)

    def test_ticks_below_0(self):
        for ticks in (-1, -2, -7, -MANY):
            for last in LASTS:
                self.refused(NoTicks, ticks, self.board.go, (2, 1, last), ticks)

    def test_which_goes_first(self):
        self.refused(NoPlace, (3, 0), self.board.go, (3, 0, "other"), -1)
        self.refused(NoPlace, (0, -1), self.board.go, (0, -1, "other"), 4)
        self.refused(NoPlace, (0, 2), self.board.go, (0, 2, "first"), -1)
        self.refused(NoLast, "other", self.board.go, (0, 0, "other"), -1)
        self.refused(NoLast, "", self.board.go, standing=(2, 1, ""), ticks=-MANY)


if __name__ == "__main__":
    unittest.main()
