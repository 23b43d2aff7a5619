"""Integers, fractions, names and spans, as values and as words (section 2)."""

import itertools
import unittest
from fractions import Fraction

from tests.samples import odd_values, some_spans
from wheneverclear.words import added, fraction_of, fraction_text, hours_of_spans, in_least_terms, integer_of
from wheneverclear.words import is_ascending, is_fraction, is_integer, is_less, is_name, is_within, less_by
from wheneverclear.words import shared_bottom, spans_of_hours, tops_over


class ValuesTest(unittest.TestCase):
    def test_integers_are_no_bools(self):
        for value in odd_values():
            with self.subTest(value=value):
                self.assertIs(is_integer(value), type(value) is int)

    def test_within_takes_both_ends(self):
        told = [value for value in (-1, 0, 1, 2, 3, 4, True, False, None, "2", (2,)) if is_within(value, 1, 3)]
        self.assertEqual(told, [1, 2, 3])

    def test_fractions_are_in_least_terms(self):
        for value in ((0, 1), (1, 1), (-3, 2), (5, 2), (1000, 999), (-1, 1)):
            self.assertIs(is_fraction(value), True, value)
        for value in ((0, 2), (2, 2), (4, 2), (1, 0), (0, 0), (1, -1), (-1, -2), (6, 9)):
            self.assertIs(is_fraction(value), False, value)

    def test_fractions_are_tuples_of_two_integers(self):
        wrong = [(True, 2), (1, True), (False, 1), [1, 2], (1,), (1, 2, 3), "1/2", 1, None, ("1", "2"), ((1, 2), 1)]
        for value in wrong:
            self.assertIs(is_fraction(value), False, value)

    def test_names(self):
        for value in ("a", "z", "moon", "abcdef", "zzzzzz"):
            self.assertIs(is_name(value), True, value)
        for value in ("", "abcdefg", "A", "aB", "a1", "a ", " a", "a-b", "a_b", "\n", "a\n", None, 1, True,
                      ("a",), ["a"]):
            self.assertIs(is_name(value), False, value)

    def test_ascending_means_unlike(self):
        self.assertEqual([is_ascending(row) for row in ((), (1,), (1, 2), (1, 1), (2, 1), (1, 3, 2))],
                         [True, True, True, False, False, False])

    def test_sums_are_those_of_fractions(self):
        amounts = [(0, 1), (1, 1), (1, 2), (5, 3), (1000, 999), (999, 1000), (7, 12), (5, 12)]
        for one, other in itertools.product(amounts, amounts):
            told = Fraction(*one) + Fraction(*other)
            self.assertEqual(added(one, other), (told.numerator, told.denominator))
            self.assertEqual(less_by(told.as_integer_ratio(), other), one)

    def test_least_terms(self):
        told = [in_least_terms(top, bottom) for top, bottom in ((6, 4), (0, 7), (-6, 9), (5, 1), (7, 7))]
        self.assertEqual(told, [(3, 2), (0, 1), (-2, 3), (5, 1), (1, 1)])

    def test_fractions_are_compared_exactly(self):
        amounts = [(0, 1), (1, 1), (1, 2), (5, 3), (1000, 999), (999, 1000), (998, 999), (-1, 2), (1, 3), (333, 1000)]
        for one, other in itertools.product(amounts, amounts):
            self.assertIs(is_less(one, other), Fraction(*one) < Fraction(*other))

    def test_integers_in_proportion(self):
        fractions = {"a": (3, 2), "b": (1, 6), "c": (2, 1)}
        self.assertEqual(shared_bottom(list(fractions.values())), 6)
        self.assertEqual(tops_over(6, fractions), {"a": 9, "b": 1, "c": 12})
        self.assertEqual(tops_over(12, {"a": (7, 4)}), {"a": 21})
        self.assertEqual([shared_bottom([]), shared_bottom([(7, 1)]), tops_over(1, {})], [1, 1, {}])


class WordsTest(unittest.TestCase):
    def test_integers_stand_as_python_writes_them(self):
        for number in (0, 1, 9, 10, 24, 1000, -1, -10, 10**12):
            self.assertEqual(integer_of(str(number)), number)
        wrong = ["", "-", "+1", "01", "00", "-0", "-01", "1_0", " 1", "1 ", "1.0", "1e1", "0x1", "a", "--1", "1-",
                 "\n1", "\u0661"]
        for word in wrong:
            self.assertIsNone(integer_of(word), word)

    def test_integers_of_thousands_of_figures_are_refused(self):
        self.assertIsNone(integer_of("1" * 3999))
        self.assertIsNone(integer_of("1" * 9999))

    def test_fractions_are_written_and_read_back(self):
        for fraction, word in (((3, 1), "3"), ((5, 2), "5/2"), ((0, 1), "0"), ((-7, 3), "-7/3"), ((1, 1000), "1/1000")):
            self.assertEqual(fraction_text(fraction), word)
            self.assertEqual(fraction_of(word), fraction)
        for word in ("3/1", "2/2", "4/2", "1/0", "1/", "/2", "/", "", "1/2/3", "1/-2", "01/2", "1/02", "1 /2", "a/b"):
            self.assertIsNone(fraction_of(word), word)

    def test_spans_of_all_lots_of_hours_are_read_back(self):
        for lot in range(1, 2**9):
            hours = tuple(hour for hour in range(9) if lot >> hour & 1)
            words = spans_of_hours(hours)
            self.assertEqual(words, some_spans(hours))
            self.assertEqual(hours_of_spans(words.split(" "), 9), hours)
            self.assertEqual(hours_of_spans(words.split(" "), hours[-1] + 1), hours)
            self.assertIsNone(hours_of_spans(words.split(" "), hours[-1]))

    def test_only_one_row_of_spans_tells_the_same_hours(self):
        words = [str(hour) for hour in range(5)] + [f"{low}-{high}" for low in range(5) for high in range(5)]
        rows = [row for many in (1, 2, 3) for row in itertools.product(words, repeat=many)]
        told = [hours_of_spans(list(row), 4) for row in rows]
        told = [hours for hours in told if hours is not None]
        self.assertEqual(len(told), 15)
        self.assertEqual(len(set(told)), 15)

    def test_words_that_are_no_spans(self):
        for word in ("", "-", "-1", "1-", "1-1", "2-1", "1--2", "1-2-3", "01", "1-02", "a", "1,2", "0-9999999999999"):
            self.assertIsNone(hours_of_spans([word], 24), word)


if __name__ == "__main__":
    unittest.main()
