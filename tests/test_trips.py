"""Points [8], [9], of point [4] the one pace, and what point [14] says of paces."""

import itertools
import unittest
from math import gcd

from roundfence import trips as trips_file
from roundfence.boards import Board
from roundfence.errors import NoLast, NoPlace
from roundfence.trips import comes_to, pace, trips
from tests.plain import (LASTS, WORDS, Picks, PromptCase, RefusalCase, all_rules, long_triples, plain_comes_to,
                         plain_standings, plain_tick, plain_trips, small_triples)

PAIRS = [(a, b) for a in "abcdef" for b in "abcdef"]


def steps_of(trip):
    """The ticks of a trip by the first reader and by the second one."""
    lasts = [last for _, _, last in trip]
    return lasts.count("first"), lasts.count("second")


class InterfaceTest(unittest.TestCase):

    def test_the_functions_are_defined_in_their_file(self):
        for function in (trips, pace, comes_to):
            self.assertEqual(function.__module__, trips_file.__name__)

    def test_arguments_go_by_name(self):
        board = Board("ab", "a", [("a", "a", "first")])
        self.assertEqual(trips(board=board), trips(board))
        self.assertEqual(pace(board=board), pace(board))
        self.assertEqual(comes_to(board=board, standing=(0, 0, "second")), (0, 1))
        self.assertEqual(comes_to(board, standing=(0, 0, "first")), (0, 0))

    def test_the_kinds_that_are_told(self):
        board = Board("ab", "a", [])
        self.assertIs(type(trips(board)), list)
        self.assertEqual({type(trip) for trip in trips(board)}, {list})
        self.assertEqual({type(standing) for trip in trips(board) for standing in trip}, {tuple})
        for told in (pace(board), comes_to(board, (0, 0, "first"))):
            self.assertIs(type(told), tuple)
            self.assertEqual([type(each) for each in told], [int, int])


class TripsTest(PromptCase):

    def test_one_trip_by_hand(self):
        board = Board("ab", "a", [("a", "a", "first")])
        self.assertEqual(trips(board), [[(0, 0, "first"), (1, 0, "first"), (1, 0, "second")]])
        self.assertEqual(pace(board), (1, 1))

    def test_a_trip_told_from_its_least_standing_on(self):
        board = Board("ab", "abc", [("a", "a", "first"), ("b", "a", "second"), ("a", "b", "second")])
        trip = [(0, 1, "first"), (0, 2, "second"), (1, 2, "first"), (1, 0, "second"), (1, 1, "second")]
        self.assertEqual(trips(board), [trip])
        self.assertEqual(pace(board), (1, 1))

    def test_several_trips_by_hand(self):
        self.assertEqual(trips(Board("aa", "aa", [])), [
            [(0, 0, "first"), (0, 1, "second"), (1, 1, "first"), (1, 0, "second")],
            [(0, 0, "second"), (1, 0, "first"), (1, 1, "second"), (0, 1, "first")],
        ])
        self.assertEqual(trips(Board("ab", "cd", [(a, b, "second") for a, b in PAIRS])), [
            [(0, 0, "second"), (0, 1, "second")],
            [(1, 0, "second"), (1, 1, "second")],
        ])

    def test_rounds_of_one_letter(self):
        self.assertEqual(trips(Board("a", "b", [])), [[(0, 0, "first"), (0, 0, "second")]])
        self.assertEqual(pace(Board("a", "b", [("a", "b", "other")])), (1, 1))
        self.assertEqual(trips(Board("a", "b", [("a", "b", "first")])), [[(0, 0, "first")]])
        self.assertEqual(pace(Board("a", "b", [("a", "b", "first")])), (1, 0))
        self.assertEqual(trips(Board("a", "b", [("a", "b", "second")])), [[(0, 0, "second")]])
        self.assertEqual(pace(Board("a", "b", [("a", "b", "second")])), (0, 1))

    def test_all_first(self):
        for first, second in (("abc", "ab"), ("a", "ba"), ("abcdef", "f")):
            board = Board(first, second, [(a, b, "first") for a, b in PAIRS])
            told = [[(i, j, "first") for i in range(len(first))] for j in range(len(second))]
            self.assertEqual(trips(board), told)
            self.assertEqual(pace(board), (1, 0))

    def test_all_second(self):
        for first, second in (("abc", "ab"), ("a", "ba"), ("abcdef", "f")):
            board = Board(first, second, [(a, b, "second") for a, b in PAIRS])
            told = [[(i, j, "second") for j in range(len(second))] for i in range(len(first))]
            self.assertEqual(trips(board), told)
            self.assertEqual(pace(board), (0, 1))

    def test_all_other(self):
        for a, b in ((1, 1), (2, 3), (4, 6), (5, 1), (6, 6), (40, 39), (40, 40)):
            for rows in ([], [("a", "b", "other")], [(x, y, "other") for x, y in PAIRS]):
                board = Board("a" * a, "b" * b, rows)
                both = gcd(a, b)
                self.assertEqual(pace(board), (b // both, a // both))
                self.assertEqual([len(trip) for trip in trips(board)], [2 * a * b // both] * both)

    def test_a_pace_of_unlike_numbers_by_hand(self):
        board = Board("a" * 5, "ab", [("a", "b", "second")])
        self.assertEqual(trips(board), [[
            (0, 0, "first"), (0, 1, "second"), (0, 0, "second"), (1, 0, "first"), (1, 1, "second"),
            (1, 0, "second"), (2, 0, "first"), (2, 1, "second"), (2, 0, "second"), (3, 0, "first"),
            (3, 1, "second"), (3, 0, "second"), (4, 0, "first"), (4, 1, "second"), (4, 0, "second"),
        ]])
        self.assertEqual(pace(board), (1, 5))

    def test_rows_of_letters_that_no_round_has_do_nothing(self):
        plain = Board("aab", "ab", [("a", "b", "first")])
        more = Board("aab", "ab", [("c", "b", "first"), ("a", "b", "first"), ("a", "f", "second")])
        self.assertEqual(trips(more), trips(plain))
        self.assertEqual(pace(more), pace(plain))

    def test_small_boards_against_plain_going(self):
        for triple in small_triples():
            self.assertEqual(trips(Board(*triple)), plain_trips(triple), triple)

    def test_long_boards_are_trips_and_all(self):
        for triple in long_triples():
            board = Board(*triple)
            found = trips(board)
            for trip in found:
                self.assertEqual(trip[0], min(trip))
                self.assertEqual(len(set(trip)), len(trip))
                for at, standing in enumerate(trip):
                    self.assertEqual(plain_tick(triple, trip[at - 1]), standing)
            self.assertEqual(found, sorted(found))
            in_trips = [standing for trip in found for standing in trip]
            self.assertEqual(len(set(in_trips)), len(in_trips))
            after = {standing: plain_tick(triple, standing) for standing in plain_standings(triple)}
            left = set(after)
            for _ in after:
                shrunk = {after[standing] for standing in left}
                if shrunk == left:
                    break
                left = shrunk
            self.assertEqual(set(in_trips), left, triple)


class PaceTest(PromptCase):

    def test_all_trips_have_the_told_pace(self):
        for triple in small_triples() + long_triples():
            board = Board(*triple)
            p, q = pace(board)
            self.assertEqual(gcd(p, q), 1, triple)
            self.assertTrue(p >= 0 and q >= 0)
            for trip in trips(board):
                self.assertEqual(steps_of(trip), (p * len(triple[0]), q * len(triple[1])), triple)

    def test_paces_against_plain_going(self):
        for triple in small_triples():
            p, q = pace(Board(*triple))
            for trip in plain_trips(triple):
                self.assertEqual(steps_of(trip), (p * len(triple[0]), q * len(triple[1])), triple)

    def test_more_of_the_first_reader_is_no_lesser_pace_for_it(self):
        for first, second in (("ab", "ab"), ("aab", "bab"), ("abbab", "aab")):
            paces = {}
            for rows in all_rules("ab", "ab"):
                key = tuple(("second", "other", "first").index(word) for _, _, word in rows)
                paces[key] = pace(Board(first, second, rows))
            for (less, (p, q)), (more, (p_more, q_more)) in itertools.product(paces.items(), repeat=2):
                if all(m >= n for m, n in zip(more, less)):
                    self.assertTrue(p_more * q >= p * q_more, (first, second, less, more))

    def test_more_of_the_first_reader_on_picked_boards(self):
        picks = Picks(14)
        for _ in range(60):
            first, second, rows = picks.triple(12)
            words = {(a, b): word for a, b, word in rows}
            p, q = pace(Board(first, second, rows))
            for a, b in PAIRS:
                if picks.below(3) == 0:
                    words[(a, b)] = "other" if words.get((a, b)) == "second" else "first"
            more = [(a, b, word) for (a, b), word in words.items()]
            p_more, q_more = pace(Board(first, second, more))
            self.assertTrue(p_more * q >= p * q_more, (first, second, rows, more))

    def test_turned_about(self):
        about = {"first": "second", "second": "first", "other": "other"}
        for first, second, rows in small_triples()[::5]:
            p, q = pace(Board(first, second, rows))
            turned = Board(second, first, [(b, a, about[word]) for a, b, word in rows])
            self.assertEqual(pace(turned), (q, p))


class ComesToTest(RefusalCase):

    def test_ways_by_hand(self):
        rows = [("a", "a", "second"), ("a", "b", "first"), ("b", "b", "first"), ("c", "b", "first")]
        board = Board("abc", "ab", rows)
        # All come to the row of the second round's place 1, where the first reader goes on for ever.
        self.assertEqual(trips(board), [[(0, 1, "first"), (1, 1, "first"), (2, 1, "first")]])
        self.assertEqual(comes_to(board, (0, 1, "first")), (0, 0))
        self.assertEqual(comes_to(board, (2, 1, "first")), (0, 0))
        self.assertEqual(comes_to(board, (0, 1, "second")), (0, 1))
        self.assertEqual(comes_to(board, (0, 0, "second")), (0, 2))
        self.assertEqual(comes_to(board, (2, 0, "second")), (0, 3))
        self.assertEqual(comes_to(board, (2, 0, "first")), (0, 2))

    def test_each_in_its_own_trip(self):
        board = Board("aaaa", "aa", [("a", "a", "second")])
        for i in range(4):
            for j in range(2):
                self.assertEqual(comes_to(board, (i, j, "second")), (i, 0))
                self.assertEqual(comes_to(board, (i, j, "first")), (i, 1))

    def test_small_boards_against_plain_going(self):
        for triple in small_triples():
            board = Board(*triple)
            found = plain_trips(triple)
            for standing in plain_standings(triple):
                told = plain_comes_to(triple, found, standing)
                self.assertEqual(comes_to(board, standing), told, (triple, standing))

    def test_long_boards_by_going(self):
        for triple in long_triples():
            board = Board(*triple)
            found = trips(board)
            standings = plain_standings(triple)
            for standing in standings[::1 + len(standings) // 17] + standings[-1:]:
                number, ticks = comes_to(board, standing)
                self.assertIn(board.go(standing, ticks)[0], found[number])
                if ticks > 0:
                    before = board.go(standing, ticks - 1)[0]
                    self.assertFalse([trip for trip in found if before in trip])

    def test_refused(self):
        board = Board("aba", "ab", [("a", "b", "first")])
        for i, j in ((-1, 0), (0, -1), (3, 0), (0, 2), (3, 2), (-3, -2), (2, 2), (9, 9)):
            for last in LASTS + ("other", ""):
                self.refused(NoPlace, (i, j), comes_to, board, (i, j, last))
        for last in ("other", "", "third", "Second"):
            self.refused(NoLast, last, comes_to, board, (2, 1, last))
            self.refused(NoLast, last, comes_to, board, (0, 0, last))


class OwnListsTest(PromptCase):

    def test_what_trips_tell_is_the_askers_own(self):
        for rows in ([], [("a", "a", "first")], [(a, b, WORDS[1]) for a, b in PAIRS]):
            board = Board("aab", "ab", rows)
            copy = Board("aab", "ab", rows)
            standings = plain_standings(("aab", "ab", rows))
            ways = [(comes_to(board, standing), board.go(standing, 9)) for standing in standings]
            one = trips(board)
            kept = [list(trip) for trip in one]
            other = trips(board)
            one[0][0] = (9, 9, "first")
            one[0].append((8, 8, "first"))
            one.append([])
            self.assertEqual(other, kept)
            self.assertEqual(trips(board), kept)
            other.clear()
            for trip in trips(board):
                trip.clear()
            self.assertEqual(trips(board), kept)
            self.assertEqual(pace(board), pace(copy))
            self.assertEqual([(comes_to(board, each), board.go(each, 9)) for each in standings], ways)
            self.assertEqual(board, copy)

    def test_what_was_told_stays_as_it_is(self):
        rows = [("a", "a", "first")]
        board = Board("aab", "ab", rows)
        told = trips(board)
        kept = [list(trip) for trip in told]
        rows.append(("b", "a", "first"))
        board.rule().clear()
        comes_to(board, (0, 1, "second"))
        pace(Board("aab", "ab", rows))
        self.assertEqual(told, kept)
        self.assertEqual(trips(board), kept)

    def test_what_is_refused_changes_nothing(self):
        board = Board("aab", "ab", [("a", "a", "first")])
        told = (trips(board), pace(board), comes_to(board, (2, 1, "second")))
        for standing in ((3, 0, "first"), (0, 0, "other")):
            with self.assertRaises((NoPlace, NoLast)):
                comes_to(board, standing)
        self.assertEqual((trips(board), pace(board), comes_to(board, (2, 1, "second"))), told)


if __name__ == "__main__":
    unittest.main()
