"""Points [8] to [13] asked of one board over and over: what is told, with how much work and memory."""

import sys
import tracemalloc
import unittest

from roundfence.around import column, meet, row
from roundfence.boards import Board
from roundfence.errors import NoLast, NoPlace
from roundfence.fences import fence_of, fences
from roundfence.trips import comes_to, pace, trips
from tests.plain import (LASTS, Picks, PromptCase, RefusalCase, lines_run, long_triples, plain_column, plain_comes_to,
                         plain_fence_of, plain_fences, plain_meet, plain_places, plain_row, plain_standings, plain_tick,
                         plain_trips, plain_walk, small_triples)

LONG = ("abcdefabcdefabcdefabcdefabcdefabcdefabcd", "aabbccddeefaabbccddeefaabbccddeefabcdef", [])
# Long ways into a short trip, and into a short fence.
FUNNEL = ("a" * 39 + "b", "a" * 38 + "b", [("a", "a", "other"), ("b", "a", "second"), ("b", "b", "second")])
LAST_ONE = (39, 38, "second")
FAR = 10 ** 50


def standings_of(triple, each):
    return plain_standings(triple)[::each]


class LongBoardTest(PromptCase):
    """The board of which all is other: it has one trip and one fence, through all standings and all places."""

    def setUp(self):
        super().setUp()
        self.board = Board(*LONG)
        self.trip = [at for at, _, _ in plain_walk(LONG, (0, 0, "first"), 3119)]
        self.fence = [(-k % 40, -k % 39) for k in range(1560)]

    def test_what_is_walked(self):
        self.assertEqual(plain_tick(LONG, self.trip[-1]), self.trip[0])
        self.assertEqual(sorted(self.trip), plain_standings(LONG))
        self.assertEqual(sorted(self.fence), plain_places(LONG))

    def test_trips_and_fences(self):
        for _ in range(100):
            self.assertEqual(trips(self.board), [self.trip])
            self.assertEqual(fences(self.board), [self.fence])
        self.assertEqual(pace(self.board), (39, 40))

    def test_where_all_come(self):
        for _ in range(2):
            for standing in standings_of(LONG, 8):
                self.assertEqual(comes_to(self.board, standing), (0, 0))
            for place in plain_places(LONG)[::4]:
                self.assertEqual(fence_of(self.board, place), (0, 0))

    def test_where_all_meet(self):
        spots = {standing: spot for spot, standing in enumerate(self.trip)}
        for other in (LAST_ONE, (0, 0, "first"), (17, 3, "first")):
            for one in standings_of(LONG, 8):
                told = ("together", 0, (spots[one] - spots[other]) % 3120)
                self.assertEqual(meet(self.board, one, other), told)

    def test_columns_and_rows(self):
        barring = [set(self.fence)]
        found = [set(self.trip)]
        columns = [plain_column(LONG, found, barring, i) for i in range(40)]
        rows = [plain_row(LONG, found, barring, j) for j in range(39)]
        self.assertEqual([len(marks) for marks in columns + rows], [78] * 40 + [80] * 39)
        for _ in range(2):
            self.assertEqual([column(self.board, i) for i in range(40)], columns)
            self.assertEqual([row(self.board, j) for j in range(39)], rows)


class AskedByTurnsTest(PromptCase):

    def test_small_boards_asked_of_in_any_order(self):
        picks = Picks(10)
        for triple in small_triples()[::23] + [picks.triple(9) for _ in range(20)]:
            board = Board(*triple)
            found, barring = plain_trips(triple), plain_fences(triple)
            standings, places = plain_standings(triple), plain_places(triple)
            for _ in range(60):
                one, other = standings[picks.below(len(standings))], standings[picks.below(len(standings))]
                place = places[picks.below(len(places))]
                which = picks.below(7)
                if which == 0:
                    self.assertEqual(comes_to(board, one), plain_comes_to(triple, found, one))
                elif which == 1:
                    self.assertEqual(meet(board, one, other), plain_meet(triple, found, one, other))
                elif which == 2:
                    self.assertEqual(fence_of(board, place), plain_fence_of(triple, barring, place))
                elif which == 3:
                    self.assertEqual(column(board, place[0]), plain_column(triple, found, barring, place[0]))
                elif which == 4:
                    self.assertEqual(row(board, place[1]), plain_row(triple, found, barring, place[1]))
                else:
                    self.assertEqual((trips(board), fences(board)), (found, barring))

    def test_every_two_standings_of_a_few_boards(self):
        for triple in small_triples()[::40] + [("aaab", "aab", FUNNEL[2])]:
            board = Board(*triple)
            found = plain_trips(triple)
            for one in plain_standings(triple):
                for other in plain_standings(triple):
                    told = plain_meet(triple, found, one, other)
                    self.assertEqual(meet(board, one, other), told, (triple, one, other))

    def test_long_ways_into_a_trip(self):
        board = Board(*FUNNEL)
        ways = {standing: self.way(FUNNEL, standing) for standing in standings_of(FUNNEL, 53)}
        self.assertEqual(trips(board), [[(39, j, "second") for j in range(39)]])
        in_it = {(39, j, "second") for j in range(39)}
        left = {standing: [at in in_it for at in way].index(True) for standing, way in ways.items()}
        self.assertTrue(max(left.values()) > 70)
        for one, way in ways.items():
            self.assertEqual(comes_to(board, one), (0, left[one]))
            for other, other_way in ways.items():
                n = [at in other_way for at in way].index(True)
                told = ("together", n, list(other_way).index(way[n]))
                self.assertEqual(meet(board, one, other), told)

    def way(self, triple, standing):
        """The standings of a walk until one comes again."""
        way = []
        while standing not in way:
            way.append(standing)
            standing = plain_tick(triple, standing)
        return way

    def test_long_boards_against_plain_going(self):
        for triple in long_triples()[::2] + [FUNNEL]:
            board = Board(*triple)
            found, barring = trips(board), fences(board)
            for _ in range(2):
                for standing in standings_of(triple, 211):
                    self.assertEqual(comes_to(board, standing), plain_comes_to(triple, found, standing))
                for place in plain_places(triple)[::101]:
                    self.assertEqual(fence_of(board, place), plain_fence_of(triple, barring, place))

    def test_boards_by_turns(self):
        triples = [("abc", "ab", [("a", "a", word)]) for word in ("first", "second", "other")]
        boards = [Board(*triple) for triple in triples]
        found = [(plain_trips(triple), plain_fences(triple)) for triple in triples]
        for standing in plain_standings(triples[0]):
            for triple, board, told in zip(triples, boards, found):
                self.assertEqual((trips(board), fences(board)), told)
                self.assertEqual(comes_to(board, standing), plain_comes_to(triple, told[0], standing))
                self.assertEqual(fence_of(board, standing[:2]), plain_fence_of(triple, told[1], standing[:2]))


class WorkTest(PromptCase):

    def of_work_anew(self, triple, ask, each):
        """What part, in a thousand, the work for each of one board is of that for each of a board made anew."""
        one = Board(*triple)
        kept = lines_run(lambda: [ask(one, at) for at in each])
        few = each[::1 + len(each) // 5]
        anew = lines_run(lambda: [ask(Board(*triple), at) for at in few])
        return kept * len(few) * 1000 // (anew * len(each))

    def test_comes_to(self):
        for triple in (LONG, FUNNEL):
            self.assertLess(self.of_work_anew(triple, comes_to, standings_of(triple, 8)), 20)

    def test_meet(self):
        for triple in (LONG, FUNNEL):
            part = self.of_work_anew(triple, lambda board, at: meet(board, at, LAST_ONE), standings_of(triple, 8))
            self.assertLess(part, 30)

    def test_fence_of(self):
        for triple in (LONG, FUNNEL):
            self.assertLess(self.of_work_anew(triple, fence_of, plain_places(triple)[::4]), 20)

    def test_column_and_row(self):
        for triple in (LONG, FUNNEL):
            self.assertLess(self.of_work_anew(triple, column, list(range(40))), 90)
            self.assertLess(self.of_work_anew(triple, row, list(range(39))), 90)

    def test_trips_fences_and_pace(self):
        for triple in (LONG, FUNNEL):
            for ask in (trips, fences, pace):
                self.assertLess(self.of_work_anew(triple, lambda board, at: ask(board), list(range(30))), 400)

    def test_each_call_behind_the_first_ones(self):
        board = Board(*LONG)
        comes_to(board, LAST_ONE)
        fence_of(board, (0, 0))
        for standing in standings_of(LONG, 100):
            self.assertLess(lines_run(lambda: comes_to(board, standing)), 60)
            self.assertLess(lines_run(lambda: meet(board, standing, LAST_ONE)), 120)
            self.assertLess(lines_run(lambda: fence_of(board, standing[:2])), 60)
            self.assertLess(lines_run(lambda: column(board, standing[0])), 40 * 60)
            self.assertLess(lines_run(lambda: row(board, standing[1])), 40 * 60)

    def test_no_way_is_gone_again(self):
        board = Board(*FUNNEL)
        all_once = lines_run(lambda: [comes_to(board, standing) for standing in plain_standings(FUNNEL)])
        again = lines_run(lambda: [comes_to(board, standing) for standing in plain_standings(FUNNEL)])
        self.assertLess(again, 3120 * 40)
        self.assertLess(all_once, 3120 * 90)
        board = Board(*FUNNEL)
        self.assertLess(lines_run(lambda: [fence_of(board, place) for place in plain_places(FUNNEL)]), 1560 * 90)

    def test_a_first_call_goes_each_tick_a_few_times(self):
        self.assertLess(lines_run(lambda: comes_to(Board(*LONG), LAST_ONE)), 3120 * 30)
        self.assertLess(lines_run(lambda: fence_of(Board(*LONG), (0, 0))), 1560 * 30)
        self.assertLess(lines_run(lambda: column(Board(*LONG), 0)), 3120 * 45)


class MemoryTest(PromptCase):

    def ask_all(self, board, triple):
        for at, standing in enumerate(plain_standings(triple)):
            comes_to(board, standing)
            fence_of(board, standing[:2])
            meet(board, standing, (at % 7, at % 5, "first"))
        for at in range(39):
            column(board, at)
            row(board, at)
            for lists in (trips(board), fences(board)):
                lists.clear()
        pace(board)

    def test_it_stays_within_a_bound_whatever_is_asked(self):
        tracemalloc.start()
        self.addCleanup(tracemalloc.stop)
        for triple in (LONG, FUNNEL):
            board = Board(*triple)
            before = tracemalloc.get_traced_memory()[0]
            # Twice, since Python keeps some freed tuples for later ones, too.
            self.ask_all(board, triple)
            self.ask_all(board, triple)
            kept = tracemalloc.get_traced_memory()[0] - before
            self.assertLess(kept, 4 * 2 ** 20)
            for _ in range(3):
                self.ask_all(board, triple)
            self.assertLess(tracemalloc.get_traced_memory()[0] - before - kept, 2 ** 14)
            for standing in standings_of(triple, 19):
                board.go(standing, FAR)
                self.assertLess(tracemalloc.get_traced_memory()[0] - before - kept, 3 * 2 ** 20)

    def test_nothing_that_is_handed_in_is_kept(self):
        for triple in (LONG, FUNNEL):
            board = Board(*triple)
            for i in (3, 37, 39):
                standing, place = tuple([i, 2 * i // 3, "first"]), tuple([i, i // 2])
                kept = sys.getrefcount(standing), sys.getrefcount(place)
                for _ in range(2):
                    comes_to(board, standing)
                    meet(board, standing, LAST_ONE)
                    meet(board, LAST_ONE, standing)
                    fence_of(board, place)
                    board.go(standing, 9)
                self.assertEqual((sys.getrefcount(standing), sys.getrefcount(place)), kept)


class OwnListsTest(PromptCase):

    def all_told(self, board):
        """Of each call what it tells, the lists told one behind the other."""
        lists = [trips(board), fences(board)]
        lists += [column(board, i) for i in (0, 1, 38)] + [row(board, j) for j in (0, 1, 38)]
        others = [pace(board), fence_of(board, (3, 4)), fence_of(board, (38, 0))]
        for standing in ((0, 0, "first"), (3, 4, "second"), (38, 0, "first"), (1, 38, "second")):
            others += [comes_to(board, standing), meet(board, standing, LAST_ONE)]
            others.append(meet(board, (5, 5, "first"), standing))
        return lists, others

    def spoil(self, lists):
        """Change each list, and each list in it, in several ways."""
        for told in lists:
            for each in told:
                if isinstance(each, list):
                    each[0] = (99, 99, "first")
                    each.reverse()
                    each.append("more")
            told.reverse()
            told.append([(0, 0)])
            told[0] = "none"
            del told[1:]

    def test_every_list_is_new_and_the_askers_own(self):
        for triple in [LONG, FUNNEL] + long_triples()[::4]:
            if len(triple[0]) < 40 or len(triple[1]) < 39:
                continue
            board = Board(*triple)
            told = self.all_told(Board(*triple))
            for _ in range(3):
                lists, others = self.all_told(board)
                self.assertEqual((lists, others), told)
                self.spoil(lists)
            self.assertEqual(self.all_told(board), told)
            self.assertEqual(board, Board(*triple))

    def test_no_list_is_told_twice(self):
        for triple in (LONG, FUNNEL):
            board = Board(*triple)
            one, other = self.all_told(board)[0], self.all_told(board)[0]
            told = one + other
            told += [each for lists in told for each in lists if isinstance(each, list)]
            self.assertEqual(len({id(each) for each in told}), len(told))

    def test_one_call_changed_leaves_the_others(self):
        asks = [trips, fences, lambda board: column(board, 1), lambda board: row(board, 1)]
        for triple in small_triples()[::71] + [("aab", "ab", []), ("ab", "aab", [("a", "a", "first")])]:
            if len(triple[0]) < 2 or len(triple[1]) < 2:
                continue
            for first in asks:
                board = Board(*triple)
                self.spoil([first(board) or ["none"]])
                self.assertEqual([ask(board) for ask in asks], [ask(Board(*triple)) for ask in asks], triple)
                self.assertEqual(pace(board), pace(Board(*triple)))
                for standing in plain_standings(triple):
                    self.assertEqual(comes_to(board, standing), comes_to(Board(*triple), standing))
                    self.assertEqual(fence_of(board, standing[:2]), fence_of(Board(*triple), standing[:2]))


class RefusedTest(RefusalCase):

    def boards(self):
        """A board of which nothing was asked, and some of which something was."""
        triple = ("aba", "ab", [("a", "b", "first")])
        boards = [Board(*triple) for _ in range(5)]
        trips(boards[1])
        fences(boards[2])
        for standing in plain_standings(triple):
            comes_to(boards[3], standing)
            meet(boards[3], standing, (0, 0, "first"))
            fence_of(boards[4], standing[:2])
            column(boards[4], standing[0])
            row(boards[4], standing[1])
        return boards

    def test_places_and_lasts(self):
        for board in self.boards():
            for _ in range(2):
                for place in ((-1, 0), (0, -1), (3, 0), (0, 2), (-3, -2), (2, 2), (FAR, 0)):
                    for last in LASTS + ("other", ""):
                        self.refused(NoPlace, place, comes_to, board, place + (last,))
                        self.refused(NoPlace, place, meet, board, place + (last,), (0, 0, "third"))
                        self.refused(NoPlace, place, meet, board, (2, 1, "first"), place + (last,))
                    self.refused(NoPlace, place, fence_of, board, place)
                for last in ("other", "", "third", "First"):
                    self.refused(NoLast, last, comes_to, board, (2, 1, last))
                    self.refused(NoLast, last, meet, board, (2, 1, last), (9, 9, "third"))
                    self.refused(NoLast, last, meet, board, (0, 0, "second"), (2, 1, last))
                for at in (-1, 3, -3, FAR, -FAR):
                    self.refused(NoPlace, (at, None), column, board, at)
                    self.refused(NoPlace, (None, at), row, board, at)
                self.refused(NoPlace, (None, 2), row, board, 2)

    def test_what_is_refused_changes_nothing(self):
        triple = ("aba", "ab", [("a", "b", "first")])
        told = plain_trips(triple), plain_fences(triple)
        for board in self.boards():
            self.refused(NoPlace, (3, 0), comes_to, board, (3, 0, "first"))
            self.refused(NoLast, "other", meet, board, (0, 0, "first"), (0, 0, "other"))
            self.refused(NoPlace, (0, -1), fence_of, board, (0, -1))
            self.refused(NoPlace, (3, None), column, board, 3)
            self.refused(NoPlace, (None, -1), row, board, -1)
            self.assertEqual((trips(board), fences(board)), told)
            self.assertEqual(board, Board(*triple))


if __name__ == "__main__":
    unittest.main()
