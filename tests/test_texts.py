"""Point [17], and of points [2], [3] what holds for these."""

import re
import unittest

from roundfence import readings as readings_file
from roundfence import texts as texts_file
from roundfence.boards import Board
from roundfence.errors import NoText
from roundfence.fences import fences
from roundfence.readings import read_board, read_standing
from roundfence.texts import show_board, show_standing
from roundfence.trips import pace, trips
from tests.plain import LASTS, WORDS, Picks, PromptCase, RefusalCase, long_triples, small_triples

PAIRS = [(a, b) for a in "abcdef" for b in "abcdef"]
SIGNS = [chr(code) for code in range(32, 127)]
SIXTY = 987654321098765432109876543210987654321098765432109876543210
ALL = [(a, b, WORDS[(ord(a) * 2 + ord(b)) % 3]) for a, b in PAIRS]

BOARD = "[a-f]+ [a-f]+: (?:-|[a-f]{2} (?:first|second|other)(?:, [a-f]{2} (?:first|second|other))*)"
STANDING = "(?:0|[1-9][0-9]{0,59})[.](?:0|[1-9][0-9]{0,59}) (?:first|second)"

BOARDS = ["ab a: -", "a b: aa first", "fed abcabc: ab other, ba second, ff first", "a a: ab first, ac first"]
STANDINGS = ["0.0 first", "3.12 second", "10.0 first", "0.907 second"]


def writes_a_board(text):
    """Whether the document lets the text be a Board's."""
    pairs = re.findall("([a-f]{2}) (?:first|second|other)(?:,|$)", text.partition(": ")[2])
    return bool(re.fullmatch(BOARD, text)) and all(one < other for one, other in zip(pairs, pairs[1:]))


def writes_a_standing(text):
    """Whether the document lets the text be a standing's."""
    return bool(re.fullmatch(STANDING, text))


def changed(text):
    """Texts that are the text but for one sign, left out, put in, exchanged or twice, and parts of it."""
    told = []
    for at in range(len(text) + 1):
        told.append(text[:at])
        told.append(text[at:])
        told.append(text[:at] + text[at + 1:])
        told.append(text[:at] + text[at:at + 2][::-1] + text[at + 2:])
        told.append(text[:at] + text[at:at + 1] + text[at:])
        for sign in SIGNS:
            told.append(text[:at] + sign + text[at:])
            told.append(text[:at] + sign + text[at + 1:])
    return told


class InterfaceTest(unittest.TestCase):

    def test_the_functions_are_defined_in_their_files(self):
        for function in (show_board, show_standing):
            self.assertEqual(function.__module__, texts_file.__name__)
        for function in (read_board, read_standing):
            self.assertEqual(function.__module__, readings_file.__name__)

    def test_arguments_go_by_name(self):
        self.assertEqual(show_board(board=Board("ab", "a", [])), "ab a: -")
        self.assertEqual(show_standing(standing=(3, 4, "first")), "3.4 first")
        self.assertEqual(read_board(text="ab a: -"), Board("ab", "a", []))
        self.assertEqual(read_standing(text="3.4 first"), (3, 4, "first"))

    def test_the_kinds_that_are_told(self):
        self.assertIs(type(show_board(Board("a", "b", []))), str)
        self.assertIs(type(show_standing((0, 1, "second"))), str)
        self.assertIs(type(read_board("a b: -")), Board)
        told = read_standing("0.1 second")
        self.assertIs(type(told), tuple)
        self.assertEqual([type(each) for each in told], [int, int, str])


class ShowBoardTest(unittest.TestCase):

    def test_by_hand(self):
        self.assertEqual(show_board(Board("ab", "a", [("a", "a", "first")])), "ab a: aa first")
        self.assertEqual(show_board(Board("a", "b", [("a", "b", "second")])), "a b: ab second")
        self.assertEqual(show_board(Board("fed", "abcabc", [])), "fed abcabc: -")

    def test_rows_by_their_pairs(self):
        rows = [("b", "a", "second"), ("f", "f", "first"), ("a", "b", "other"), ("a", "a", "first")]
        told = "ab f: aa first, ab other, ba second, ff first"
        for turn in range(4):
            self.assertEqual(show_board(Board("ab", "f", rows[turn:] + rows[:turn])), told)
            self.assertEqual(show_board(Board("ab", "f", (rows[turn:] + rows[:turn])[::-1])), told)

    def test_rows_with_other_are_written_where_they_were_handed_in(self):
        self.assertEqual(show_board(Board("a", "b", [("a", "b", "other")])), "a b: ab other")
        self.assertEqual(show_board(Board("a", "b", [("c", "d", "other")])), "a b: cd other")

    def test_rows_of_letters_that_no_round_has(self):
        rows = [("e", "c", "second"), ("c", "d", "first"), ("a", "b", "first")]
        self.assertEqual(show_board(Board("a", "b", rows)), "a b: ab first, cd first, ec second")

    def test_all_pairs_in_any_order(self):
        told = "abc def: " + ", ".join(a + b + " " + word for a, b, word in ALL)
        self.assertEqual(told.count(","), 35)
        picks = Picks(36)
        for _ in range(10):
            left, rows = list(ALL), []
            while left:
                rows.append(left.pop(picks.below(len(left))))
            self.assertEqual(show_board(Board("abc", "def", rows)), told)

    def test_long_rounds(self):
        board = Board("ab" * 20, "f" * 40, [])
        self.assertEqual(show_board(board), "ab" * 20 + " " + "f" * 40 + ": -")

    def test_what_was_handed_in_is_written_not_what_it_became(self):
        rows = [("a", "b", "first")]
        board = Board("ab", "b", rows)
        rows.append(("b", "b", "first"))
        board.rule().clear()
        self.assertEqual(show_board(board), "ab b: ab first")


class ShowStandingTest(unittest.TestCase):

    def test_by_hand(self):
        self.assertEqual(show_standing((0, 0, "first")), "0.0 first")
        self.assertEqual(show_standing((3, 12, "second")), "3.12 second")
        self.assertEqual(show_standing((39, 0, "second")), "39.0 second")
        self.assertEqual(show_standing((10, 100, "first")), "10.100 first")

    def test_sixty_figures(self):
        self.assertEqual(show_standing((SIXTY, 10 ** 59, "first")), str(SIXTY) + "." + "1" + "0" * 59 + " first")
        self.assertEqual(show_standing((0, 10 ** 60 - 1, "second")), "0." + "9" * 60 + " second")


class ReadBoardTest(PromptCase):

    def test_by_hand(self):
        self.assertEqual(read_board("ab a: aa first"), Board("ab", "a", [("a", "a", "first")]))
        self.assertEqual(read_board("fed abcabc: -"), Board("fed", "abcabc", []))
        board = read_board("a bb: ab other, ba second, ff first")
        self.assertEqual((board.first(), board.second()), ("a", "bb"))
        self.assertEqual(board.rule(), [("a", "b", "other"), ("b", "a", "second"), ("f", "f", "first")])

    def test_each_board_is_read_back(self):
        for triple in small_triples() + long_triples() + [("abc", "def", ALL), ("a", "b", ALL[::-1])]:
            board = Board(*triple)
            text = show_board(board)
            again = read_board(text)
            self.assertEqual(again, board)
            self.assertEqual(show_board(again), text)
            self.assertTrue(writes_a_board(text), text)

    def test_what_is_read_does_what_the_board_does(self):
        for triple in small_triples()[::20] + long_triples()[-1:]:
            board = Board(*triple)
            again = read_board(show_board(board))
            self.assertEqual((again.first(), again.second(), again.rule()), (triple[0], triple[1], sorted(triple[2])))
            self.assertEqual((trips(again), fences(again), pace(again)), (trips(board), fences(board), pace(board)))
            self.assertEqual(again.go((0, 0, "first"), SIXTY), board.go((0, 0, "first"), SIXTY))

    def test_rows_with_other_count(self):
        self.assertNotEqual(read_board("a b: ab other"), read_board("a b: -"))
        self.assertNotEqual(read_board("a b: cd other"), read_board("a b: -"))

    def test_a_new_one_each_time(self):
        one, other = read_board("ab a: aa first"), read_board("ab a: aa first")
        self.assertIsNot(one, other)
        one.rule().clear()
        trips(one)[0].clear()
        self.assertEqual(one, other)
        self.assertEqual(other.rule(), [("a", "a", "first")])

    def test_rounds_however_long(self):
        for a, b in ((41, 1), (1, 41), (100, 77), (1990, 2000), (3994, 1)):
            first, second = ("abcdef" * 700)[:a], ("fab" * 700)[:b]
            text = first + " " + second + ": -"
            board = read_board(text)
            self.assertEqual((board.first(), board.second(), board.rule()), (first, second, []))
            self.assertEqual(show_board(board), text)
            self.assertEqual(board.go((a - 1, b - 1, "first"), 2), ((0, 0, "first"), 1, 1))
        board = read_board("abc" * 500 + " " + "de" * 500 + ": ad second, be first, ff other")
        self.assertEqual(board.word(0, 0), "second")
        self.assertEqual(board.rule(), [("a", "d", "second"), ("b", "e", "first"), ("f", "f", "other")])


class ReadStandingTest(PromptCase):

    def test_by_hand(self):
        self.assertEqual(read_standing("0.0 first"), (0, 0, "first"))
        self.assertEqual(read_standing("3.12 second"), (3, 12, "second"))
        self.assertEqual(read_standing("10.907 first"), (10, 907, "first"))

    def test_any_places(self):
        for i in (0, 1, 9, 10, 39, 40, 41, 1000, 10 ** 59, SIXTY, 10 ** 60 - 1):
            for j in (0, 7, 99, 10 ** 30, 10 ** 60 - 1):
                for last in LASTS:
                    text = show_standing((i, j, last))
                    self.assertEqual(text, str(i) + "." + str(j) + " " + last)
                    self.assertEqual(read_standing(text), (i, j, last))


class NoTextTest(RefusalCase):

    def refused_by_both(self, text):
        self.refused(NoText, text, read_board, text)
        self.refused(NoText, text, read_standing, text)
        self.refused(NoText, text, read_board, text=text)
        self.refused(NoText, text, read_standing, text=text)

    def test_what_writes_nothing(self):
        for text in ("", " ", "  ", "-", ":", ": ", ": -", " : -", ".", ". first", "first", "ab", "a b", "0", "0.0",
                     "a b:", "a b: ", "a b -", "a b:-", "a b : -", "a b: - ", " a b: -", "a b: -\n", "\na b: -",
                     "a b:  -", "a  b: -", "a b: --", "a b: -, -", "a b: -: -", "a b: a b: -", "a b c: -", "a: -",
                     "0.0 first ", " 0.0 first", "0.0  first", "0.0 first\n", "\t0.0 first", "0.0first", "0 0 first",
                     "0.0.0 first", "0.0 first first", "0.0 ", ".0 first", "0. first", "0 first", "0..0 first",
                     "0.0, first", "0,0 first", "0.0: first", "(0, 0, first)", "0.0 -", "0.0"):
            self.refused_by_both(text)

    def test_an_empty_round(self):
        for text in (" a: -", "a : -", " : -", ": -", "  a: -", " a: aa first", "a : aa first", "  : aa first"):
            self.refused_by_both(text)

    def test_letters_that_are_none(self):
        for text in ("g a: -", "a g: -", "A a: -", "a A: -", "ABC a: -", "a1 a: -", "a a_: -", "ab-c a: -", "a: a: -",
                     "a, b: -", "a a: gA first", "a a: ag first", "a a: ga first", "a a: Aa first", "a a: aF first",
                     "a a: a- first", "a a: 1a first", "a \u00e4: -", "\u0430 a: -", "a a: \u0430a first", "a\n a: -"):
            self.refused_by_both(text)

    def test_words_that_are_none(self):
        for word in ("", "First", "FIRST", "third", "firs", "firstt", "f", "others", "seconds", "none", "-",
                     "first ", "first,", "first second", "first.", "\u0066\u0131rst"):
            self.refused_by_both("a a: aa " + word)
            self.refused_by_both("a a: aa " + word + ", ab first")
            self.refused_by_both("a a: aa first, ab " + word)
            self.refused_by_both("0.0 " + word)
        for text in ("0.0 other", "3.12 other", "1.0 First", "1.0 SECOND"):
            self.refused_by_both(text)

    def test_pairs_twice_or_not_in_order(self):
        for text in ("a a: aa first, aa first", "a a: aa first, aa second", "a a: ab first, aa first",
                     "a a: ba first, ab first", "a a: aa first, ab first, aa first", "a a: ff other, fe other",
                     "a a: aa first, ac first, ab first", "a a: ab other, ab other, ac first",
                     "a a: bf first, ca first, be first"):
            self.refused_by_both(text)

    def test_rows_that_are_none(self):
        for text in ("a a: a first", "a a: aaa first", "a a: first", "a a:  first", "a a: aafirst", "a a: aa  first",
                     "a a: a a first", "a a: a, a first", "a a: aa", "a a: aa ", "a a: aa first,", "a a: aa first, ",
                     "a a: , aa first", "a a: aa first,ab first", "a a: aa first,  ab first", "a a: aa first ab first",
                     "a a: aa first , ab first", "a a: aa first; ab first", "a a: aa first, -", "a a: -, aa first",
                     "a a: -aa first", "a a: - aa first", "a a: aa first, , ab first", "a a:aa first", "a a aa first",
                     "a a: aa first.", "a a: aa: first", "a a: aa -", "a a: ,", "a a: , "):
            self.refused_by_both(text)

    def test_numbers_that_are_none(self):
        for number in ("", "00", "01", "007", "-1", "+1", "-0", "+0", "1 ", " 1", "1_000", "1e3", "0x1", "1,0", "a",
                       "\u0661", "\u00b2", "\uff11", "--1", "1.", ".1", "1.0", "0" * 60, "0" + "1" * 59,
                       "1" * 61, "9" * 61, "1" + "0" * 60, "0" * 61, "1" * 5000):
            self.refused_by_both(number + ".0 first")
            self.refused_by_both("0." + number + " first")
            self.refused_by_both(number + "." + number + " second")

    def test_no_text_is_read_by_both(self):
        for text in BOARDS:
            self.assertEqual(show_board(read_board(text)), text)
            self.refused(NoText, text, read_standing, text)
        for text in STANDINGS:
            self.assertEqual(show_standing(read_standing(text)), text)
            self.refused(NoText, text, read_board, text)

    def test_right_texts_with_one_sign_changed(self):
        for text in [each for right in BOARDS for each in changed(right)]:
            self.check_board(text)
            self.refused(NoText, text, read_standing, text)
        for text in [each for right in STANDINGS for each in changed(right)]:
            self.check_standing(text)
            self.refused(NoText, text, read_board, text)

    def test_right_parts_in_any_order(self):
        picks = Picks(17)
        parts = ["a", "ab", "f", " ", " ", ": ", "-", "first", "second", "other", "aa first", "ab other", ", ", "."]
        read = 0
        for _ in range(6000):
            text = "".join(parts[picks.below(len(parts))] for _ in range(1 + picks.below(9)))
            self.check_board(text)
            self.check_standing(text)
        for _ in range(6000):
            text = "a b: " + ", ".join(parts[10 + picks.below(2)] for _ in range(picks.below(4)))
            read += writes_a_board(text)
            self.check_board(text)
        self.assertTrue(read > 500)

    def check_board(self, text):
        if writes_a_board(text):
            self.assertEqual(show_board(read_board(text)), text)
        else:
            self.refused(NoText, text, read_board, text)

    def check_standing(self, text):
        if writes_a_standing(text):
            self.assertEqual(show_standing(read_standing(text)), text)
        else:
            self.refused(NoText, text, read_standing, text)

    def test_long_texts(self):
        for text in ("a" * 4000, " " * 4000, "a " * 2000, "-" * 4000, ", " * 2000, ": " * 2000, "0" * 4000,
                     "1." * 2000, "a b: " + "aa first, " * 390, "a" * 3000 + " b" * 400 + ": -",
                     "9" * 3990 + ".0 first"):
            self.refused_by_both(text)


class ChangesNothingTest(RefusalCase):

    def test_showing_changes_nothing(self):
        for triple in small_triples()[::50]:
            board = Board(*triple)
            told = self.all_told(board)
            text = show_board(board)
            self.assertEqual(show_board(board), text)
            self.assertEqual(self.all_told(board), told)
            self.assertEqual(board, Board(*triple))

    def all_told(self, board):
        return (board.first(), board.second(), board.rule(), trips(board), fences(board), pace(board))

    def test_what_is_refused_changes_nothing(self):
        for text in BOARDS:
            told = read_board(text)
            self.refused(NoText, text + ",", read_board, text + ",")
            self.refused(NoText, "", read_board, "")
            self.assertEqual(read_board(text), told)
            self.assertEqual(show_board(told), text)


if __name__ == "__main__":
    unittest.main()
