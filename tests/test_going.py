"""Point [7]: go told over and over, in any order, and with how much work."""

import unittest

from roundfence.around import column, row
from roundfence.boards import Board
from roundfence.errors import NoLast, NoPlace, NoTicks
from roundfence.fences import fences
from roundfence.trips import comes_to, pace, trips
from tests.plain import (LASTS, Picks, PromptCase, RefusalCase, lines_run, long_triples, plain_by_laps, plain_far,
                         plain_standings, plain_walk, small_triples)

LONG = ("abcdefabcdefabcdefabcdefabcdefabcdefabcd", "aabbccddeefaabbccddeefaabbccddeefabcdef", [])
FEW = ("abcdefabcdef", "aabbccddeef", [])
# The first reader is led from place to place into a trip of the second one: long ways and short trips.
FUNNEL = ("a" * 39 + "b", "a" * 38 + "b", [("a", "a", "other"), ("b", "a", "second"), ("b", "b", "second")])
FAR = 10 ** 50


def some_standings(triple, many):
    standings = plain_standings(triple)
    return standings[::max(1, len(standings) // many)] + standings[-1:]


class SameAnswersTest(PromptCase):

    def test_far_ticks_one_after_another(self):
        board = Board(*LONG)
        lap = plain_walk(LONG, (0, 0, "first"), 3120)
        self.assertEqual(lap[-1], ((0, 0, "first"), 1560, 1560))
        for k in range(500):
            laps, over = divmod(FAR + k, 3120)
            at, firsts, seconds = lap[over]
            told = (at, laps * 1560 + firsts, laps * 1560 + seconds)
            self.assertEqual(board.go((0, 0, "first"), FAR + k), told, k)

    def test_far_ticks_from_several_standings(self):
        for triple in [LONG, FEW, FUNNEL] + long_triples():
            board = Board(*triple)
            for standing in some_standings(triple, 5):
                for k in (0, 1, 77, 499):
                    told = plain_by_laps(triple, standing, FAR + k)
                    self.assertEqual(board.go(standing, FAR + k), told, (triple, standing, k))

    def test_few_ticks_from_every_standing(self):
        board = Board(*FEW)
        for standing in plain_standings(FEW):
            walk = plain_walk(FEW, standing, 120)
            for k in range(1, 121):
                self.assertEqual(board.go(standing, k), walk[k], (standing, k))

    def test_few_ticks_with_the_standings_by_turns(self):
        board = Board(*FEW)
        standings = plain_standings(FEW)[::-3]
        walks = [plain_walk(FEW, standing, 120) for standing in standings]
        for k in range(121):
            for standing, walk in zip(standings, walks):
                self.assertEqual(board.go(standing, k), walk[k], (standing, k))

    def test_every_number_of_ticks_far_beyond_where_it_comes_again(self):
        for triple in small_triples()[::17]:
            board = Board(*triple)
            for standing in some_standings(triple, 3):
                for k, told in enumerate(plain_walk(triple, standing, 250)):
                    self.assertEqual(board.go(standing, k), told, (triple, standing, k))

    def test_numbers_of_ticks_in_any_order(self):
        picks = Picks(6)
        triples = [picks.triple(8) for _ in range(40)] + [LONG, FUNNEL]
        for triple in triples:
            board = Board(*triple)
            standings = some_standings(triple, 4)
            walks = {standing: plain_walk(triple, standing, 400) for standing in standings}
            far = {standing: plain_by_laps(triple, standing, FAR) for standing in standings}
            for _ in range(60):
                standing = standings[picks.below(len(standings))]
                k = picks.below(401)
                self.assertEqual(board.go(standing, k), walks[standing][k], (triple, standing, k))
                if picks.below(4) == 0:
                    self.assertEqual(board.go(standing, FAR), far[standing], (triple, standing))

    def test_fewer_ticks_behind_more(self):
        for triple in small_triples()[::41] + [FEW, FUNNEL]:
            board = Board(*triple)
            for standing in some_standings(triple, 3):
                walk = plain_walk(triple, standing, 90)
                self.assertEqual(board.go(standing, FAR), plain_by_laps(triple, standing, FAR))
                for k in range(90, -1, -1):
                    self.assertEqual(board.go(standing, k), walk[k], (triple, standing, k))

    def test_all_the_walks_of_a_long_board(self):
        for triple in (LONG, FUNNEL):
            board = Board(*triple)
            far = plain_far(triple, FAR + 7)
            few = plain_far(triple, 5)
            for standing in some_standings(triple, 400):
                self.assertEqual(board.go(standing, 5), few[standing], standing)
                self.assertEqual(board.go(standing, FAR + 7), far[standing], standing)
            for standing in some_standings(triple, 90):
                self.assertEqual(board.go(standing, FAR + 7), far[standing], standing)
                self.assertEqual(board.go(standing, 5), few[standing], standing)

    def test_boards_by_turns(self):
        triples = [("abc", "ab", [("a", "a", word)]) for word in ("first", "second", "other")]
        boards = [Board(*triple) for triple in triples]
        for k in range(60):
            for triple, board in zip(triples, boards):
                for standing in ((0, 0, "first"), (2, 1, "second")):
                    self.assertEqual(board.go(standing, k), plain_by_laps(triple, standing, k))


class WorkTest(PromptCase):

    def test_far_ticks_one_after_another(self):
        board = Board(*LONG)

        def ask():
            for k in range(100):
                board.go((0, 0, "first"), FAR + k)

        self.assertLess(lines_run(ask), 100 * 1000)

    def test_few_ticks_one_after_another(self):
        board = Board(*FEW)

        def ask():
            for standing in plain_standings(FEW)[:40]:
                for k in range(1, 121):
                    board.go(standing, k)

        self.assertLess(lines_run(ask), 40 * 120 * 60)

    def test_few_ticks_with_the_standings_by_turns(self):
        board = Board(*FEW)

        def ask():
            for k in range(1, 121):
                for standing in plain_standings(FEW)[:40]:
                    board.go(standing, k)

        self.assertLess(lines_run(ask), 40 * 120 * 60)

    def test_one_far_ask_goes_each_tick_about_once(self):
        board = Board(*LONG)
        self.assertLess(lines_run(lambda: board.go((0, 0, "first"), FAR)), 3200 * 12)

    def test_few_ticks_on_a_long_board_are_not_a_whole_walk(self):
        board = Board(*LONG)
        self.assertLess(lines_run(lambda: board.go((3, 3, "first"), 3)), 150)


class RefusedTest(RefusalCase):

    def asked_boards(self):
        """A board as it is, and one of which all was asked before."""
        rows = [("a", "b", "first")]
        asked = Board("aba", "ab", rows)
        for standing in plain_standings(("aba", "ab", rows)):
            for ticks in (0, 3, FAR):
                asked.go(standing, ticks)
        return [Board("aba", "ab", rows), asked]

    def test_a_place_then_a_last_then_ticks(self):
        for board in self.asked_boards():
            for place in ((-1, 0), (0, -1), (3, 0), (0, 2), (-3, -2), (2, 2), (FAR, 0)):
                for last in LASTS + ("other", ""):
                    for ticks in (0, 1, FAR, -1, -FAR):
                        self.refused(NoPlace, place, board.go, place + (last,), ticks)
            for last in ("other", "", "third", "First"):
                for ticks in (0, 1, FAR, -1, -FAR):
                    self.refused(NoLast, last, board.go, (2, 1, last), ticks)
                    self.refused(NoLast, last, board.go, standing=(0, 0, last), ticks=ticks)
            for last in LASTS:
                for ticks in (-1, -2, -FAR):
                    self.refused(NoTicks, ticks, board.go, (2, 1, last), ticks)
                    self.refused(NoTicks, ticks, board.go, ticks=ticks, standing=(0, 0, last))

    def test_again_and_between(self):
        for board in self.asked_boards():
            for _ in range(3):
                self.refused(NoTicks, -1, board.go, (1, 1, "first"), -1)
                self.refused(NoLast, "other", board.go, (1, 1, "other"), -1)
                self.refused(NoPlace, (1, 2), board.go, (1, 2, "other"), -1)
                told = plain_by_laps(("aba", "ab", [("a", "b", "first")]), (1, 1, "first"), 8)
                self.assertEqual(board.go((1, 1, "first"), 8), told)


class ChangesNothingTest(RefusalCase):

    def all_told(self, board):
        a, b = len(board.first()), len(board.second())
        standings = [(i, j, last) for i in range(a) for j in range(b) for last in LASTS]
        return (board.first(), board.second(), board.rule(), [board.word(i, j) for i, j, _ in standings], trips(board),
                pace(board), fences(board), [column(board, i) for i in range(a)], [row(board, j) for j in range(b)],
                [comes_to(board, standing) for standing in standings[::5]])

    def test_asking_go_changes_nothing_of_the_board(self):
        for triple in small_triples()[::19] + [FEW]:
            board, other = Board(*triple), Board(*triple)
            told = self.all_told(board)
            for standing in some_standings(triple, 30):
                for ticks in (0, 1, 2, 17, FAR):
                    board.go(standing, ticks)
            self.refused(NoTicks, -1, board.go, (0, 0, "first"), -1)
            self.refused(NoLast, "other", board.go, (0, 0, "other"), 1)
            self.refused(NoPlace, (0, -1), board.go, (0, -1, "first"), 1)
            self.assertEqual(self.all_told(board), told)
            self.assertTrue(board == other and other == board)
            self.assertFalse(board != other or other != board)
            self.assertFalse(board == Board(triple[0] + "a", triple[1], triple[2]))

    def test_what_was_told_stays_as_it_is(self):
        board = Board(*FEW)
        told = [board.go((3, 4, "first"), k) for k in range(200)]
        kept = list(told)
        for k in range(400, 0, -1):
            board.go((3, 4, "first"), k)
        self.assertEqual(told, kept)
        self.assertEqual([board.go((3, 4, "first"), k) for k in range(200)], kept)

    def test_a_rule_handed_in_and_changed_between(self):
        rows = [("a", "b", "first"), ("b", "a", "second")]
        triple = ("aab", "ab", list(rows))
        board = Board("aab", "ab", rows)
        walk = plain_walk(triple, (0, 0, "first"), 80)
        for k in range(40):
            self.assertEqual(board.go((0, 0, "first"), k), walk[k])
        rows[0] = ("a", "b", "second")
        rows.append(("a", "a", "first"))
        board.rule().clear()
        for k in range(80, -1, -1):
            self.assertEqual(board.go((0, 0, "first"), k), walk[k])


if __name__ == "__main__":
    unittest.main()
