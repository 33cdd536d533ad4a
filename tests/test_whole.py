"""Point [4]: what holds of any two rounds and any rule."""

import unittest
from math import gcd

from roundfence.around import column, meet, row
from roundfence.boards import Board
from roundfence.counts import rounds_by, turned
from roundfence.fences import fence_of, fences
from roundfence.trips import comes_to, pace, trips
from tests.plain import (LASTS, Picks, PromptCase, long_triples, plain_places, plain_standings, plain_tick,
                         plain_walk, small_triples)


def boards():
    """Small boards, and some with rounds as long as may be."""
    picks = Picks(4)
    return small_triples() + [picks.triple(11) for _ in range(100)] + long_triples()[::3]


def between(marks, at, kind):
    """Of the marks of a kind the next one not below at, and the last one below it, all round."""
    told = [mark for mark in marks if mark[1] == kind]
    above = [mark for mark in told if mark[0] >= at] + told
    below = told + [mark for mark in told if mark[0] < at]
    return above[0], below[-1]


class TripsAndFencesTest(PromptCase):

    def test_one_pace_and_as_many_fences(self):
        for triple in boards():
            board = Board(*triple)
            p, q = pace(board)
            self.assertEqual(gcd(p, q), 1, triple)
            for trip in trips(board):
                firsts = [last for _, _, last in trip].count("first")
                self.assertEqual((firsts, len(trip) - firsts), (p * len(triple[0]), q * len(triple[1])), triple)
            self.assertEqual(len(fences(board)), len(trips(board)), triple)

    def test_every_place_comes_to_a_fence_and_every_standing_to_a_trip(self):
        for triple in boards()[::12]:
            board = Board(*triple)
            barring, found = fences(board), trips(board)
            for place in plain_places(triple)[::7]:
                self.assertIn(fence_of(board, place)[0], range(len(barring)))
            for standing in plain_standings(triple)[::13]:
                number, ticks = comes_to(board, standing)
                self.assertIn(board.go(standing, ticks)[0], found[number])

    def test_cut_anywhere_they_stand_by_turns(self):
        for triple in boards()[::3]:
            board = Board(*triple)
            cuts = [column(board, i) for i in range(len(triple[0]))]
            cuts += [row(board, j) for j in range(len(triple[1]))]
            for marks in cuts:
                for at, mark in enumerate(marks):
                    self.assertNotEqual(mark[1], marks[at - 1][1], (triple, marks))

    def test_a_step_between_two_fences_leads_to_the_trip_between_them(self):
        for triple in small_triples()[::2]:
            board = Board(*triple)
            columns = [column(board, i) for i in range(len(triple[0]))]
            rows = [row(board, j) for j in range(len(triple[1]))]
            for i, j, last in plain_standings(triple):
                if plain_tick(triple, (i, j, last))[2] == "first":
                    marks, at = columns[i], j
                else:
                    marks, at = rows[j], i
                if marks:
                    number = comes_to(board, (i, j, last))[0]
                    self.assertIn(number, self.trips_between(marks, at), (triple, i, j, last))

    def trips_between(self, marks, at):
        """The numbers of the trips between the fence that stands a little above at, or higher, and the one below."""
        above, below = between(marks, at, "fence")
        stop = marks.index(above)
        start = marks.index(below)
        told = marks[start + 1:stop] if start < stop else marks[start + 1:] + marks[:stop]
        self.assertEqual([kind for _, kind, _ in told], ["trip"])
        return [number for _, _, number in told]


class WalksTest(PromptCase):

    def test_two_walks_come_to_one_trip_or_fences_stand_between_them(self):
        for triple in small_triples()[::6]:
            board = Board(*triple)
            standings = plain_standings(triple)
            cuts = [column(board, 0), row(board, 0)]
            for one in standings[::1 + len(standings) // 6]:
                for other in standings[::1 + len(standings) // 5]:
                    word, m, n = meet(board, one, other)
                    if word == "together":
                        self.assertEqual(board.go(one, m)[0], board.go(other, n)[0])
                    else:
                        self.apart(cuts, m, n)
                        self.assertNotEqual(comes_to(board, one)[0], comes_to(board, other)[0])

    def apart(self, cuts, one, other):
        """In each cut between each mark of the one trip and of the other one is one of a fence, both ways round."""
        for marks in cuts:
            kinds = [kind for _, kind, _ in marks]
            named = [mark[1:] for mark in marks]
            for here in [at for at, name in enumerate(named) if name == ("trip", one)]:
                for there in [at for at, name in enumerate(named) if name == ("trip", other)]:
                    low, high = sorted((here, there))
                    self.assertIn("fence", kinds[low:high])
                    self.assertIn("fence", kinds[high:] + kinds[:low])

    def test_behind_rounds_of_the_one_reader_the_other_is_within_a_round_and_a_step(self):
        for triple in boards()[::3]:
            board = Board(*triple)
            p, q = pace(board)
            a, b = len(triple[0]), len(triple[1])
            for standing in plain_standings(triple)[::11 if a * b < 200 else 1499]:
                for _, firsts, seconds in self.ends_of_steps(triple, standing, "first"):
                    if p > 0 and firsts % a == 0:
                        away = abs(seconds * p - firsts // a * q * b)
                        self.assertTrue(away < (b + 1) * p, (triple, standing, firsts))
                for _, firsts, seconds in self.ends_of_steps(triple, standing, "second"):
                    if q > 0 and seconds % b == 0:
                        away = abs(firsts * q - seconds // b * p * a)
                        self.assertTrue(away < (a + 1) * q, (triple, standing, seconds))

    def ends_of_steps(self, triple, standing, reader):
        """What is told of a walk behind each step of the reader."""
        return [told for told in plain_walk(triple, standing, 500)[1:] if told[0][2] == reader]

    def test_counts_of_both_readers(self):
        for triple in boards()[::9]:
            board = Board(*triple)
            for standing in plain_standings(triple)[::17 if len(triple[0]) < 20 else 999]:
                i, j, last = standing
                there = (j, i, LASTS[1 - LASTS.index(last)])
                for rounds in (1, 4, 10 ** 59):
                    self.within(pace(board), len(triple[1]), rounds, rounds_by(board, standing, rounds))
                    p, q = pace(board)
                    self.within((q, p), len(triple[0]), rounds, rounds_by(turned(board), there, rounds))

    def within(self, one_pace, length, rounds, told):
        p, q = one_pace
        if p == 0:
            self.assertIsNone(told)
        else:
            self.assertTrue((told * length - length - 1) * p < rounds * q * length)
            self.assertTrue(rounds * q * length < (told * length + 2 * length) * p)


if __name__ == "__main__":
    unittest.main()
