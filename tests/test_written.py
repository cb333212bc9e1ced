"""Points 1.6 and 1.7: shapes and lists of bars as text."""

import unittest

from barstay.errors import BadBar, BadHeight, BadLine, BadShape, BadSimplex
from barstay.errors import DuplicateSimplex, LateFace, MissingFace
from barstay.written import format_bars, format_shape, parse_bars, parse_shape
from tests.checks import Checks
from tests.samples import NAMED, RING, heights_for, shuffled

# Words that are no numbers, in any line.
NO_NUMBERS = [
    "", "-", "--1", "-0", "-00", "-01", "+1", "+0", "00", "01", "007", "000000", "1234567", "-1234567", "0000001",
    "1-", "1-2", "- 1", "a", "x1", "1x", "at", "At", "none", "None", "True", "0x1", "0b1", "1_0", "1.0", "1e2", "1,0",
    "\t", "1\t", "\t1", "1\r", "1\x0b", "1\x0c", "\x1c1", "1\x85", "1\u00a0", "\u20281", "1\u2028", "\u3000", "\x00",
    "\u00b2", "\u0661", "\u0967", "\uff11", "\U0001d7d9", "\u2460", "\u2212" + "1", "1\u0301"]


class TextChecks(Checks):

    def fails(self, call, text, kind, place):
        self.raises(kind, place, call, text)


class TestFormatShape(TextChecks):

    def test_the_empty_list(self):
        self.assertEqual(format_shape([]), "")

    def test_one_line(self):
        self.assertEqual(format_shape([((0,), 0)]), "0 at 0")
        self.assertEqual(format_shape([((11,), 1000)]), "11 at 1000")
        self.assertEqual(format_shape([((3,), -1000)]), "3 at -1000")

    def test_edges_and_triangles_in_their_sequence(self):
        shape = [((0, 1, 10), 7), ((10,), -1), ((0, 10), 7), ((0,), -12), ((1, 10), 0), ((1,), 0), ((0, 1), 3)]
        self.assertEqual(
            format_shape(shape), "0 1 10 at 7\n10 at -1\n0 10 at 7\n0 at -12\n1 10 at 0\n1 at 0\n0 1 at 3")

    def test_the_list_stays(self):
        shape = [((1,), 3), ((0,), 2), ((0, 1), 3)]
        self.assertEqual(format_shape(shape), "1 at 3\n0 at 2\n0 1 at 3")
        self.assertEqual(shape, [((1,), 3), ((0,), 2), ((0, 1), 3)])


class TestFormatBars(TextChecks):

    def test_the_empty_list(self):
        self.assertEqual(format_bars([]), "")

    def test_lines(self):
        self.assertEqual(format_bars([(0, -2, 5), (1, 3, None)]), "0 -2 5\n1 3 -")
        self.assertEqual(format_bars([(2, 0, 1)]), "2 0 1")
        self.assertEqual(format_bars([(0, -1000, -999)]), "0 -1000 -999")
        self.assertEqual(format_bars([(1, 0, None)]), "1 0 -")
        self.assertEqual(format_bars([(0, -1, 0)]), "0 -1 0")

    def test_in_their_sequence_and_equal_ones(self):
        bars = [(2, 5, None), (0, 0, 1), (2, 5, None), (0, -7, 1)]
        self.assertEqual(format_bars(bars), "2 5 -\n0 0 1\n2 5 -\n0 -7 1")
        self.assertEqual(bars, [(2, 5, None), (0, 0, 1), (2, 5, None), (0, -7, 1)])


class TestThereAndBack(TextChecks):

    def test_shapes(self):
        for order in NAMED.values():
            for seed in range(4):
                shape = heights_for(shuffled(order, seed), seed)
                for given in (shape, shape[::-1]):
                    text = format_shape(given)
                    self.assertEqual(parse_shape(text), given)
                    self.assertEqual(text.count("\n"), max(len(given) - 1, 0))

    def test_bars(self):
        for bars in [[], [(0, 0, 1)], [(1, -1000, None)], [(2, 999, 1000), (0, -3, None), (0, -3, 2), (0, -3, 2)] * 30]:
            self.assertEqual(parse_bars(format_bars(bars)), bars)

    def test_lists_are_new(self):
        for call, text in ((parse_shape, "0 at 2"), (parse_bars, "0 1 2"), (parse_shape, ""), (parse_bars, "")):
            self.gives_new_lists(call, text)


class TestParseShape(TextChecks):

    def test_right_texts(self):
        self.assertEqual(parse_shape(""), [])
        self.assertEqual(parse_shape("0 at 0"), [((0,), 0)])
        self.assertEqual(parse_shape("0 at 2\n1 at 3\n0 1 at 3"), [((0,), 2), ((1,), 3), ((0, 1), 3)])
        self.assertEqual(parse_shape("0 1 at 3\n1 at 3\n0 at -10"), [((0, 1), 3), ((1,), 3), ((0,), -10)])

    def test_numbers_of_words(self):
        for line in ["0", "at", "0 at", "at 0", "at at", "0 1", "0 1 2", "0 at 0 0", "0 at 0 at", "0 1 at", "at 0 1",
                     "0 at at 0", "at 0 at 0", "0 at 0 at 0", "at at 0", "0 at at", "at 0 0", "at at at", "0 1 at 2 3"]:
            self.fails(parse_shape, line, BadLine, 0)
            self.fails(parse_shape, "7 at 1\n8 at 1\n" + line, BadLine, 2)

    def test_the_word_at(self):
        for word in ["AT", "At", "a", "att", "in", "-", "0", "at\t", "\tat", "a t", ""]:
            self.fails(parse_shape, f"0 {word} 3", BadLine, 0)

    def test_empty_words(self):
        for line in ["0  at 1", "0 at  1", " 0 at 1", "0 at 1 ", "  0 at 1", "0 at 1  ", " ", "  ", "   ", "0 1  at 1"]:
            self.fails(parse_shape, line, BadLine, 0)
            self.fails(parse_shape, "5 at 0\n" + line, BadLine, 1)

    def test_empty_lines(self):
        self.fails(parse_shape, "\n", BadLine, 0)
        self.fails(parse_shape, "0 at 1\n", BadLine, 1)
        self.fails(parse_shape, "\n0 at 1", BadLine, 0)
        self.fails(parse_shape, "0 at 1\n\n1 at 1", BadLine, 1)
        self.fails(parse_shape, "0 at 1\n1 at 1\n\n", BadLine, 2)

    def test_words_that_are_no_numbers(self):
        for word in NO_NUMBERS:
            self.fails(parse_shape, f"{word} at 1", BadLine, 0)
            self.fails(parse_shape, f"0 {word} at 1", BadLine, 0)
            self.fails(parse_shape, f"{word} 0 at 1", BadLine, 0)
            self.fails(parse_shape, f"5 at 0\n6 at 0\n0 at {word}\n7 at 0", BadLine, 2)

    def test_other_signs_between_words_and_lines(self):
        for sign in ["\t", "\r", "\x0b", "\x0c", "\u00a0", "\u2003", "\u3000", ",", ""]:
            self.fails(parse_shape, f"0{sign}at 1", BadLine, 0)
            self.fails(parse_shape, f"0 at{sign}1", BadLine, 0)
            self.fails(parse_shape, f"0 at 1{sign}1 at 1", BadLine, 0)
        self.fails(parse_shape, "0 at 1\r\n1 at 1", BadLine, 0)
        self.fails(parse_shape, "0 at 1\x851 at 1", BadLine, 0)
        self.fails(parse_shape, "0 at 1\u20281 at 1", BadLine, 0)

    def test_six_digits_have_their_form(self):
        self.fails(parse_shape, "0 at 123456", BadHeight, 0)
        self.fails(parse_shape, "0 at -999999", BadHeight, 0)
        self.fails(parse_shape, "100000 at 0", BadSimplex, 0)
        self.fails(parse_shape, "0 at 1234567", BadLine, 0)
        self.fails(parse_shape, "0 at -1000000", BadLine, 0)
        self.fails(parse_shape, "1000000 at 0", BadLine, 0)

    def test_forms_that_are_right_but_refused(self):
        self.fails(parse_shape, "1 at 0\n0 1 2 3 at 5", BadSimplex, 1)
        self.fails(parse_shape, "0 1 2 3 4 5 6 7 8 9 10 11 12 at 5", BadSimplex, 0)
        self.fails(parse_shape, "12 at 0", BadSimplex, 0)
        self.fails(parse_shape, "-1 at 0", BadSimplex, 0)
        self.fails(parse_shape, "1 0 at 0", BadSimplex, 0)
        self.fails(parse_shape, "0 at 0\n1 1 at 0", BadSimplex, 1)
        self.fails(parse_shape, "0 at 0\n1 at 1001", BadHeight, 1)
        self.fails(parse_shape, "0 at -1001", BadHeight, 0)
        self.fails(parse_shape, "0 at 0\n1 at 0\n0 at 1", DuplicateSimplex, 2)
        self.fails(parse_shape, "0 at 0\n0 1 at 0", MissingFace, 1)
        self.fails(parse_shape, "0 1 at 0\n0 at 0\n1 at 1", LateFace, 0)

    def test_sixty_lines_and_more(self):
        lines = format_shape([(simplex, 0) for simplex in NAMED["sixty"]]).split("\n")
        self.assertEqual(len(parse_shape("\n".join(lines))), 60)
        self.fails(parse_shape, "\n".join(lines + ["10 11 at 0"]), BadShape, None)
        self.fails(parse_shape, "\n".join(lines + ["10 11 at 0", "10 at"]), BadLine, 61)

    def test_lines_are_read_before_items_are_checked(self):
        for wrong in ["12 at 0", "0 at 2000", "0 1 at 0", "5 at 1"]:
            self.fails(parse_shape, f"5 at 0\n{wrong}\n1 at", BadLine, 2)
            self.fails(parse_shape, f"5 at 0\n{wrong}\n", BadLine, 2)

    def test_the_first_bad_line(self):
        self.fails(parse_shape, "0 at\n1 at", BadLine, 0)
        self.fails(parse_shape, "0 at 1\n1 at 01\nx\n", BadLine, 1)


class TestParseBars(TextChecks):

    def test_right_texts(self):
        self.assertEqual(parse_bars(""), [])
        self.assertEqual(parse_bars("0 -2 5\n1 3 -"), [(0, -2, 5), (1, 3, None)])
        self.assertEqual(parse_bars("2 0 1000\n0 0 -\n2 0 1000"), [(2, 0, 1000), (0, 0, None), (2, 0, 1000)])

    def test_numbers_of_words(self):
        for line in ["0", "0 1", "0 1 2 3", "0 1 -  ", "0 1 - -", "- - -", "0 -", "-", "0 1 at 2", "0 1 2 -"]:
            self.fails(parse_bars, line, BadLine, 0)
            self.fails(parse_bars, "0 1 2\n0 1 -\n" + line, BadLine, 2)

    def test_empty_words_and_lines(self):
        for line in [" 0 1 2", "0 1 2 ", "0  1 2", "0 1  2", "0 1 ", " 0 1", "0  1", " 1 2", "  ", " ", "0 1 - "]:
            self.fails(parse_bars, line, BadLine, 0)
            self.fails(parse_bars, "0 1 2\n" + line, BadLine, 1)
        self.fails(parse_bars, "\n", BadLine, 0)
        self.fails(parse_bars, "0 1 2\n", BadLine, 1)
        self.fails(parse_bars, "\n0 1 2", BadLine, 0)
        self.fails(parse_bars, "0 1 2\n\n0 1 2", BadLine, 1)

    def test_words_that_are_no_numbers(self):
        for word in NO_NUMBERS:
            self.fails(parse_bars, f"{word} 1 2", BadLine, 0)
            self.fails(parse_bars, f"0 {word} 2", BadLine, 0)
            if word != "-":
                self.fails(parse_bars, f"0 1 -\n0 1 {word}\n0 1 -", BadLine, 1)
        self.fails(parse_bars, "0\t1 2", BadLine, 0)
        self.fails(parse_bars, "0 1 2\r\n0 1 2", BadLine, 0)

    def test_six_digits_have_their_form(self):
        self.fails(parse_bars, "0 0 123456", BadBar, 0)
        self.fails(parse_bars, "0 -123456 -", BadBar, 0)
        self.fails(parse_bars, "999999 0 -", BadBar, 0)
        self.fails(parse_bars, "0 0 1234567", BadLine, 0)
        self.fails(parse_bars, "0 -1234567 -", BadLine, 0)
        self.fails(parse_bars, "1000000 0 -", BadLine, 0)

    def test_forms_that_are_right_but_refused(self):
        for line in ["3 0 1", "-1 0 1", "0 1 1", "0 2 1", "0 1001 -", "0 -1001 0", "2 0 1001"]:
            self.fails(parse_bars, line, BadBar, 0)
            self.fails(parse_bars, "0 1 2\n0 1 -\n" + line + "\n7 7 7", BadBar, 2)

    def test_lines_are_read_before_bars_are_checked(self):
        self.fails(parse_bars, "3 0 1\n0 0", BadLine, 1)
        self.fails(parse_bars, "0 1 1\n0 0 1\n", BadLine, 2)
        self.fails(parse_bars, "0 0\n0 0 01", BadLine, 0)

    def test_more_than_sixty_bars(self):
        self.assertEqual(parse_bars("\n".join(["1 0 -"] * 200)), [(1, 0, None)] * 200)


class TestExamples(TextChecks):

    def test_the_ring(self):
        shape = list(zip(RING, (0, 0, 0, 1, 2, 3, 6)))
        text = "0 at 0\n1 at 0\n2 at 0\n0 1 at 1\n1 2 at 2\n0 2 at 3\n0 1 2 at 6"
        self.assertEqual(format_shape(shape), text)
        self.assertEqual(parse_shape(text), shape)


if __name__ == "__main__":
    unittest.main()
