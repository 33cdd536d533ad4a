"""Points [10], [11], and of points [2], [3] what holds for fences."""

import unittest
from math import gcd

from roundfence import fences as fences_file
from roundfence.boards import Board
from roundfence.errors import NoPlace
from roundfence.fences import fence_of, fences
from roundfence.trips import pace, trips
from tests.plain import (WORDS, PromptCase, RefusalCase, long_triples, plain_fence_of, plain_fences, plain_places,
                         plain_step_back, plain_word, small_triples)

PAIRS = [(a, b) for a in "abcdef" for b in "abcdef"]
FAR = 10 ** 59
TWO = ("abb", "aab", [("a", "a", "first"), ("b", "b", "second")])


def steps_back(triple, fence):
    """The steps of a fence by the first reader and by the second one."""
    words = [plain_word(triple, i, j) for i, j in fence]
    return len(words) - words.count("second"), len(words) - words.count("first")


class InterfaceTest(unittest.TestCase):

    def test_the_functions_are_defined_in_their_file(self):
        for function in (fences, fence_of):
            self.assertEqual(function.__module__, fences_file.__name__)

    def test_arguments_go_by_name(self):
        board = Board(*TWO)
        self.assertEqual(fences(board=board), fences(board))
        self.assertEqual(fence_of(board=board, place=(0, 1)), (1, 1))
        self.assertEqual(fence_of(board, place=(2, 2)), (1, 1))
        self.assertEqual(fence_of(place=(0, 2), board=board), (1, 0))

    def test_the_kinds_that_are_told(self):
        board = Board(*TWO)
        self.assertIs(type(fences(board)), list)
        self.assertEqual({type(fence) for fence in fences(board)}, {list})
        self.assertEqual({type(place) for fence in fences(board) for place in fence}, {tuple})
        self.assertEqual({type(each) for fence in fences(board) for place in fence for each in place}, {int})
        told = fence_of(board, (1, 0))
        self.assertIs(type(told), tuple)
        self.assertEqual([type(each) for each in told], [int, int])


class FencesTest(PromptCase):

    def test_one_fence_by_hand(self):
        self.assertEqual(fences(Board("ab", "a", [("a", "a", "first")])), [[(0, 0), (1, 0)]])

    def test_a_fence_told_backwards_from_its_least_place_on(self):
        board = Board("aab", "aba", [("a", "a", "first"), ("b", "a", "second")])
        self.assertEqual(fences(board), [[(0, 0), (2, 0), (2, 2), (2, 1), (1, 0)]])

    def test_two_fences_in_the_order_of_their_first_places(self):
        self.assertEqual(fences(Board(*TWO)), [[(0, 0), (2, 0), (1, 2), (1, 1)], [(0, 2), (2, 1), (1, 0)]])

    def test_by_other_both_step_back(self):
        self.assertEqual(fences(Board("aa", "aa", [])), [[(0, 0), (1, 1)], [(0, 1), (1, 0)]])
        self.assertEqual(fences(Board("abc", "ab", [])), [[(0, 0), (2, 1), (1, 0), (0, 1), (2, 0), (1, 1)]])

    def test_rows_of_other_do_what_no_rows_do(self):
        for first, second in (("aab", "ab"), ("abc", "cab"), ("a", "b")):
            rows = [("a", "b", "first"), ("b", "c", "second")]
            more = rows + [(a, b, "other") for a, b in PAIRS if (a, b) not in (("a", "b"), ("b", "c"))]
            self.assertEqual(fences(Board(first, second, more)), fences(Board(first, second, rows)))

    def test_rows_of_letters_that_no_round_has_do_nothing(self):
        rows = [("a", "b", "first")]
        more = [("c", "b", "first"), ("a", "b", "first"), ("a", "f", "second")]
        self.assertEqual(fences(Board("aab", "ab", more)), fences(Board("aab", "ab", rows)))

    def test_rounds_of_one_letter(self):
        for rows in ([], [("a", "b", "other")], [("a", "b", "first")], [("a", "b", "second")]):
            self.assertEqual(fences(Board("a", "b", rows)), [[(0, 0)]])
        self.assertEqual(fences(Board("aaa", "b", [])), [[(0, 0), (2, 0), (1, 0)]])
        self.assertEqual(fences(Board("aaa", "b", [("a", "b", "second")])), [[(0, 0)], [(1, 0)], [(2, 0)]])

    def test_all_first(self):
        for first, second in (("abc", "ab"), ("a", "ba"), ("f" * 40, "ab" * 20)):
            board = Board(first, second, [(a, b, "first") for a, b in PAIRS])
            told = [[(0, j)] + [(i, j) for i in range(len(first) - 1, 0, -1)] for j in range(len(second))]
            self.assertEqual(fences(board), told)

    def test_all_second(self):
        for first, second in (("abc", "ab"), ("a", "ba"), ("ab" * 20, "f" * 40)):
            board = Board(first, second, [(a, b, "second") for a, b in PAIRS])
            told = [[(i, 0)] + [(i, j) for j in range(len(second) - 1, 0, -1)] for i in range(len(first))]
            self.assertEqual(fences(board), told)

    def test_all_other(self):
        for a, b in ((1, 1), (2, 3), (4, 6), (5, 1), (40, 39), (40, 40)):
            told = fences(Board("a" * a, "b" * b, []))
            both = gcd(a, b)
            self.assertEqual([len(fence) for fence in told], [a * b // both] * both)

    def test_small_boards_against_plain_going(self):
        for triple in small_triples():
            self.assertEqual(fences(Board(*triple)), plain_fences(triple), triple)

    def test_long_boards_are_fences_and_all(self):
        for triple in long_triples():
            found = fences(Board(*triple))
            for fence in found:
                self.assertEqual(fence[0], min(fence))
                self.assertEqual(len(set(fence)), len(fence))
                for at, place in enumerate(fence):
                    self.assertEqual(plain_step_back(triple, fence[at - 1]), place)
            self.assertEqual(found, sorted(found))
            before = {place: plain_step_back(triple, place) for place in plain_places(triple)}
            left = set(before)
            for _ in before:
                left = {before[place] for place in left}
            in_fences = [place for fence in found for place in fence]
            self.assertEqual(len(in_fences), len(left))
            self.assertEqual(set(in_fences), left, triple)

    def test_as_many_as_trips_at_the_trips_pace(self):
        for triple in small_triples() + long_triples():
            board = Board(*triple)
            found = fences(board)
            p, q = pace(board)
            self.assertEqual(len(found), len(trips(board)), triple)
            for fence in found:
                self.assertEqual(steps_back(triple, fence), (p * len(triple[0]), q * len(triple[1])), triple)
                others = [place for place in fence if plain_word(triple, *place) == "other"]
                places = p * len(triple[0]) + q * len(triple[1]) - len(others)
                self.assertEqual(len(fence), places, triple)


class FenceOfTest(RefusalCase):

    def test_ways_by_hand(self):
        board = Board(*TWO)
        told = {(0, 0): (0, 0), (0, 1): (1, 1), (0, 2): (1, 0), (1, 0): (1, 0), (1, 1): (0, 0), (1, 2): (0, 0),
                (2, 0): (0, 0), (2, 1): (1, 0), (2, 2): (1, 1)}
        for place, number_and_ticks in told.items():
            self.assertEqual(fence_of(board, place), number_and_ticks, place)

    def test_more_than_one_tick(self):
        board = Board("ab", "abc", [("a", "a", "first"), ("b", "a", "second"), ("a", "b", "second")])
        self.assertEqual(fences(board), [[(0, 0), (1, 0), (1, 2), (0, 1)]])
        self.assertEqual(fence_of(board, (1, 1)), (0, 1))
        self.assertEqual(fence_of(board, (0, 2)), (0, 2))

    def test_a_place_in_its_fence_is_there_behind_no_ticks(self):
        for triple in small_triples()[::3] + long_triples():
            board = Board(*triple)
            for number, fence in list(enumerate(fences(board)))[:4]:
                for place in fence[::1 + len(fence) // 5]:
                    self.assertEqual(fence_of(board, place), (number, 0), triple)

    def test_small_boards_against_plain_going(self):
        for triple in small_triples():
            board = Board(*triple)
            found = plain_fences(triple)
            for place in plain_places(triple):
                self.assertEqual(fence_of(board, place), plain_fence_of(triple, found, place), (triple, place))

    def test_long_boards_by_going(self):
        for triple in long_triples():
            board = Board(*triple)
            found = fences(board)
            places = plain_places(triple)
            for place in places[::1 + len(places) // 13] + places[-1:]:
                self.assertEqual(fence_of(board, place), plain_fence_of(triple, found, place), (triple, place))

    def test_refused(self):
        board = Board("aba", "ab", [("a", "b", "first")])
        wrong = [(-1, 0), (0, -1), (3, 0), (0, 2), (3, 2), (-1, -1), (-3, -2), (2, 2), (3, 1), (-1, 1), (9, 9),
                 (0, 40), (40, 0), (FAR, 0), (0, -FAR), (-FAR, FAR)]
        for place in wrong:
            self.refused(NoPlace, place, fence_of, board, place)
            self.refused(NoPlace, place, fence_of, place=place, board=board)

    def test_the_last_places(self):
        board = Board("ab" * 20, "abcde" * 8, [])
        self.assertEqual(fence_of(board, (39, 39)), (0, 0))
        self.refused(NoPlace, (40, 39), fence_of, board, (40, 39))
        self.refused(NoPlace, (39, 40), fence_of, board, (39, 40))
        for place in ((1, 0), (0, 1), (-1, 0), (0, -1)):
            self.refused(NoPlace, place, fence_of, Board("a", "a", []), place)


class OwnListsTest(RefusalCase):

    def test_what_fences_tell_is_the_askers_own(self):
        for rows in ([], [("a", "a", "first")], [(a, b, WORDS[1]) for a, b in PAIRS]):
            board = Board("aab", "ab", rows)
            places = plain_places(("aab", "ab", rows))
            ways = [fence_of(board, place) for place in places]
            one = fences(board)
            kept = [list(fence) for fence in one]
            other = fences(board)
            one[0][0] = (9, 9)
            one[0].append((8, 8))
            one.append([])
            self.assertEqual(other, kept)
            self.assertEqual(fences(board), kept)
            other.clear()
            for fence in fences(board):
                fence.clear()
            self.assertEqual(fences(board), kept)
            self.assertEqual([fence_of(board, place) for place in places], ways)
            self.assertEqual(board, Board("aab", "ab", rows))

    def test_what_was_told_stays_as_it_is(self):
        rows = [("a", "a", "first")]
        board = Board("aab", "ab", rows)
        told = fences(board)
        kept = [list(fence) for fence in told]
        rows.append(("b", "a", "first"))
        board.rule().clear()
        fence_of(board, (0, 1))
        fences(Board("aab", "ab", rows))
        self.assertEqual(told, kept)
        self.assertEqual(fences(board), kept)

    def test_what_is_refused_changes_nothing(self):
        board = Board(*TWO)
        told = (fences(board), fence_of(board, (2, 2)), trips(board), board.rule())
        for place in ((3, 0), (0, -1)):
            self.refused(NoPlace, place, fence_of, board, place)
        self.assertEqual((fences(board), fence_of(board, (2, 2)), trips(board), board.rule()), told)


if __name__ == "__main__":
    unittest.main()
