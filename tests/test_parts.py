"""Parts of books: parts, what is left, what heals, what bars, and kinds alike (section 12)."""

import itertools
import random
import unittest
from fractions import Fraction

from tests.oracles import amount, do_quarrel, greatest_parts, is_calm, is_lot, kinds_of, later_of, lots_of_kinds, pair
from tests.oracles import quarrels_with_some
from tests.samples import FULL, ONE, SIX, Line, Row, book_of, calm_book, chances, is_plain, odd_values, raised, same
from tests.samples import some_book, spoiled
from wheneverclear.books import Book, with_worth
from wheneverclear.errors import BadKinds, NoKind, Same
from wheneverclear.parts import alike, bars, fewest_left, heals, is_part, parts, shows_fewest_left
from wheneverclear.quarrels import agrees, quarrels

BOOK = Book("book 6 1\nkind dawn 1 3-5\nkind gem 2 0-3\nkind moon 1 0-5\nkind rift 3 0-1 5")
STEEP = Book("book 2 1\nkind gem 1 0\nkind sun 2 0-1")
EVEN = Book("book 2 1\nkind one 2 0-1\nkind two 2 0-1")


def many_books():
    """Books that quarrel, and books that don't, of any form."""
    for number, chance in enumerate(chances(120)):
        most = (6, 24, 4)[number % 3]
        yield calm_book(chance, most) if number % 4 == 0 else some_book(chance, most)


def some_worths(kinds):
    """Worths about all those that kinds have: these, what is between, less than all, and more."""
    told = sorted({amount(kinds, kind) for kind in kinds})
    between = [(one + other) / 2 for one, other in zip(told, told[1:])]
    return [*told, *between, told[0] / 2, told[0] / 10**6, told[-1] + 1, told[-1] * 10**6]


def first_quarrel(kinds, hours, one, other):
    """The first hour at which two kinds quarrel, or None."""
    return next((hour for hour in range(hours) if do_quarrel(kinds, one, other, hour)), None)


class IsPartTest(unittest.TestCase):
    def test_of_the_document(self):
        self.assertEqual([is_part(BOOK, ("gem", "rift")), is_part(BOOK, ())], [False, True])

    def test_one_kind(self):
        for kind in BOOK.names:
            self.assertIs(is_part(BOOK, (kind,)), True)

    def test_all_kinds(self):
        for book, kinds in many_books():
            self.assertIs(is_part(book, tuple(sorted(kinds))), quarrels(book) == ())

    def test_all_lots_of_kinds(self):
        for book, kinds in many_books():
            for lot in lots_of_kinds(kinds):
                self.assertIs(is_part(book, lot), is_calm(kinds, book.hours, lot))

    def test_kinds_that_are_none(self):
        for value in odd_values() + spoiled(("dawn", "gem")) + [("gem", "dawn"), ("gem", "gem"), ["gem"], ("sun",)]:
            due = None if is_lot(kinds_of(BOOK), value) else (BadKinds, value)
            self.assertEqual(raised(is_part, BOOK, value), due)
        value = ["gem"]
        self.assertIs(raised(is_part, BOOK, value)[1], value)


class PartsTest(unittest.TestCase):
    def test_of_the_document(self):
        self.assertEqual(parts(BOOK), (("dawn", "gem", "moon"), ("dawn", "moon", "rift")))
        self.assertEqual(parts(STEEP), (("gem",), ("sun",)))

    def test_one_kind_and_kinds_alike(self):
        self.assertEqual(parts(ONE), (("a",),))
        self.assertEqual(parts(EVEN), (("one", "two"),))
        self.assertEqual(parts(FULL), (tuple("abcdefgh"),))

    def test_beside_all_lots_of_kinds(self):
        seen = set()
        for book, kinds in many_books():
            told = parts(book)
            self.assertTrue(is_plain(told) and same(told, greatest_parts(kinds, book.hours)))
            self.assertTrue(same(told, parts(Book(book.text))))
            self.assertEqual(len(told) == 1, agrees(book)[0] == "agrees")
            seen.add(len(told))
        self.assertGreater(len(seen), 4)

    def test_eight_kinds_that_all_quarrel(self):
        kinds = {name: ((at + 1, 1), (0, at + 1)) for at, name in enumerate("abcdefgh")}
        book = book_of(9, 1, kinds)
        self.assertEqual(parts(book), tuple((name,) for name in "abcdefgh"))
        self.assertEqual(len(fewest_left(book)), 7)

    def test_a_lot_is_a_part_exactly_if_some_greatest_part_has_it(self):
        for book, kinds in many_books():
            told = parts(book)
            for lot in lots_of_kinds(kinds):
                self.assertIs(is_part(book, lot), any(set(lot) <= set(part) for part in told))


class FewestLeftTest(unittest.TestCase):
    def right_ones(self, book, kinds):
        """All that is right as what fewest_left tells, by a trial of all lots of kinds."""
        calm = [lot for lot in lots_of_kinds(kinds) if is_calm(kinds, book.hours, lot)]
        most = max(len(lot) for lot in calm)
        return [tuple(sorted(set(kinds) - set(lot))) for lot in calm if len(lot) == most]

    def test_of_the_document(self):
        self.assertIn(fewest_left(BOOK), (("gem",), ("rift",)))
        self.assertIs(shows_fewest_left(BOOK, ("gem",)), True)
        self.assertIs(shows_fewest_left(BOOK, ("rift",)), True)
        self.assertIs(shows_fewest_left(BOOK, ("dawn",)), False)
        self.assertIs(shows_fewest_left(BOOK, ("dawn", "gem")), False)
        self.assertIs(shows_fewest_left(BOOK, ()), False)

    def test_nothing_is_left_of_books_that_agree(self):
        for chance in chances(40):
            book, _ = calm_book(chance)
            self.assertEqual(fewest_left(book), ())
            self.assertIs(shows_fewest_left(book, ()), True)
            self.assertIs(shows_fewest_left(book, book.names[:1]), False)

    def test_beside_all_lots_of_kinds(self):
        for book, kinds in many_books():
            told, right = fewest_left(book), self.right_ones(book, kinds)
            self.assertTrue(is_plain(told) and told in right)
            self.assertTrue(same(told, fewest_left(Book(book.text))))
            for lot in right + random.Random(book.text).sample(lots_of_kinds(kinds), min(2**len(kinds), 40)):
                self.assertIs(shows_fewest_left(book, lot), lot in right)

    def test_any_value(self):
        for book in (BOOK, STEEP, EVEN, ONE):
            right = self.right_ones(book, kinds_of(book))
            for value in odd_values() + spoiled(fewest_left(book)):
                is_right = any(same(value, one) for one in right)
                self.assertIs(shows_fewest_left(book, value), is_right, value)
        self.assertIs(shows_fewest_left(BOOK, ["gem"]), False)
        self.assertIs(shows_fewest_left(Book("book 1 1\nkind a 1 0"), ()), True)


class HealsTest(unittest.TestCase):
    def test_of_the_document(self):
        told = [heals(BOOK, kind) for kind in ("dawn", "gem", "moon", "rift")]
        self.assertEqual(told, [("span", None, (2, 1)), ("none",), ("span", None, (2, 1)), ("none",)])
        self.assertEqual(heals(EVEN, "one"), ("span", None, None))
        self.assertEqual(heals(STEEP, "gem"), ("span", (2, 1), None))
        self.assertEqual(heals(STEEP, "sun"), ("span", None, (1, 1)))

    def test_one_kind(self):
        self.assertEqual(heals(ONE, "a"), ("span", None, None))

    def test_both_ends(self):
        book = Book("book 3 1\nkind a 1/3 0\nkind b 1 0-1\nkind c 5/2 0-2")
        self.assertEqual([heals(book, kind) for kind in "abc"],
                         [("span", (5, 2), None), ("none",), ("span", None, (1, 3))])
        book = Book("book 3 1\nkind a 5/2 0\nkind b 1 0-1\nkind c 5/3 0-2")
        self.assertEqual(heals(book, "b"), ("span", (5, 3), (5, 2)))
        book = Book("book 3 1\nkind a 5/2 0\nkind b 1 0-1\nkind c 5/2 0-2")
        self.assertEqual(heals(book, "b"), ("span", (5, 2), (5, 2)))

    def test_ends_that_cross(self):
        # With less b quarrels with c, with more with a: so with each worth with one of both.
        book = Book("book 3 1\nkind a 2 0\nkind b 9/4 0-1\nkind c 5/2 0-2")
        self.assertEqual(heals(book, "b"), ("none",))
        self.assertEqual([bars(book, "a", "b"), bars(book, "b", "c")], [("worth", 0), ("worth", 0)])

    def test_ends_beyond_what_a_book_lets(self):
        book = Book("book 2 1\nkind a 1000 0-1\nkind b 1/1000 0")
        self.assertEqual([heals(book, "a"), heals(book, "b")],
                         [("span", None, (1, 1000)), ("span", (1000, 1), None)])

    def test_many_worths_put_in(self):
        seen = set()
        for book, kinds in many_books():
            for kind in book.names:
                told = heals(book, kind)
                self.assertTrue(is_plain(told) and same(told, heals(Book(book.text), kind)))
                for put_in in some_worths(kinds):
                    self.assertEqual(self.has(told, put_in), not quarrels_with_some(kinds, book.hours, kind, put_in))
                self.assertIs(self.has(told, amount(kinds, kind)), all(kind not in row for row in quarrels(book)))
                seen.add(tuple(part is None for part in told))
        self.assertEqual(len(seen), 5)

    def has(self, told, put_in):
        """Whether what heals tells has a worth."""
        if told == ("none",):
            return False
        word, low, high = told
        self.assertEqual(word, "span")
        return (low is None or Fraction(*low) <= put_in) and (high is None or put_in <= Fraction(*high))

    def test_ends_are_worths_of_other_kinds(self):
        for book, kinds in many_books():
            for kind in book.names:
                for end in heals(book, kind)[1:]:
                    self.assertTrue(end is None or end in [kinds[other][0] for other in kinds if other != kind])

    def test_put_in_by_books(self):
        for book, kinds in list(many_books())[:60]:
            for kind in book.names:
                told = heals(book, kind)
                for put_in in some_worths(kinds):
                    if max(pair(put_in)) <= 1000:
                        other = with_worth(book, kind, pair(put_in))
                        self.assertEqual(self.has(told, put_in), all(kind not in row for row in quarrels(other)))

    def test_kinds_that_are_none(self):
        for value in odd_values() + ["Gem", "gem ", ("gem",)]:
            self.assertEqual(raised(heals, BOOK, value), None if value == "moon" else (NoKind, value))


class BarsTest(unittest.TestCase):
    def test_of_the_document(self):
        told = [bars(BOOK, *two) for two in (("gem", "rift"), ("dawn", "gem"), ("dawn", "rift"))]
        self.assertEqual(told, [("hours", 0), ("never",), ("never",)])
        self.assertEqual(bars(STEEP, "gem", "sun"), ("worth", 0))

    def test_the_first_hour(self):
        book = Book("book 6 1\nkind a 1 1-3\nkind b 2 1-2 4")
        self.assertEqual(quarrels(book), (("a", "b", 1), ("a", "b", 2)))
        self.assertEqual(bars(book, "b", "a"), ("hours", 1))
        book = Book("book 6 1\nkind a 2 1-2 4\nkind b 1 2")
        self.assertEqual(bars(book, "a", "b"), ("worth", 2))
        # In hour 0 each has a later hour of its own; in hour 1 those of b lie within.
        book = Book("book 6 1\nkind a 2 0-1 4\nkind b 1 0-2 4")
        self.assertEqual(bars(book, "a", "b"), ("never",))
        book = Book("book 4 1\nkind a 1 0-2\nkind b 2 0-1 3")
        self.assertEqual([bars(book, "a", "b"), bars(book, "b", "a")], [("hours", 0), ("hours", 0)])

    def test_many_books(self):
        seen = set()
        for book, kinds in many_books():
            for one, other in itertools.permutations(kinds, 2):
                hour = first_quarrel(kinds, book.hours, one, other)
                told = bars(book, one, other)
                if hour is None:
                    self.assertEqual(told, ("never",))
                else:
                    own, more = later_of(kinds, one, hour), later_of(kinds, other, hour)
                    self.assertTrue(same(told, ("hours" if own - more and more - own else "worth", hour)))
                self.assertEqual(told, bars(book, other, one))
                seen.add(told[0])
        self.assertEqual(seen, {"never", "hours", "worth"})

    def test_errors_in_their_sequence(self):
        for value in odd_values() + ["sun"]:
            is_kind = type(value) is str and value in BOOK.names
            self.assertEqual(raised(bars, BOOK, value, "gem"), None if is_kind else (NoKind, value))
            self.assertEqual(raised(bars, BOOK, "gem", value), None if is_kind else (NoKind, value))
        self.assertEqual(raised(bars, BOOK, None, ()), (NoKind, None))
        self.assertEqual(raised(bars, BOOK, "sun", "sun"), (NoKind, "sun"))
        for kind in BOOK.names:
            self.assertEqual(raised(bars, BOOK, kind, kind), (Same, kind))


class AlikeTest(unittest.TestCase):
    def test_of_the_document(self):
        self.assertIs(alike(BOOK, "dawn", "moon"), False)
        self.assertIs(alike(EVEN, "one", "two"), True)

    def test_worths_and_hours(self):
        book = Book("book 4 1\nkind a 2 0-2\nkind b 2 0-1\nkind c 3 0-2\nkind d 2 0-2\nkind e 3 0 2")
        told = {(one, other) for one in book.names for other in book.names if alike(book, one, other)}
        self.assertEqual(told, {(kind, kind) for kind in book.names} | {("a", "d"), ("d", "a")})

    def test_many_books(self):
        for book, kinds in many_books():
            for one, other in itertools.product(kinds, kinds):
                self.assertIs(alike(book, one, other), kinds[one] == kinds[other])

    def test_errors_in_their_sequence(self):
        for value in odd_values():
            due = None if value == "moon" else (NoKind, value)
            self.assertEqual(raised(alike, BOOK, value, "gem"), due)
            self.assertEqual(raised(alike, BOOK, "gem", value), due)
        self.assertEqual(raised(alike, BOOK, [], {}), (NoKind, []))


class ArgumentsTest(unittest.TestCase):
    def test_by_name(self):
        self.assertIs(is_part(kinds=("gem",), book=BOOK), True)
        self.assertEqual(parts(book=STEEP), (("gem",), ("sun",)))
        self.assertIs(shows_fewest_left(value=fewest_left(book=BOOK), book=BOOK), True)
        self.assertEqual(heals(kind="gem", book=STEEP), ("span", (2, 1), None))
        self.assertEqual(bars(other="sun", one="gem", book=STEEP), ("worth", 0))
        self.assertIs(alike(other="two", one="one", book=EVEN), True)

    def test_books_stay(self):
        for book in (BOOK, STEEP, SIX):
            before = {name: value for name, value in vars(book).items()}
            parts(book)
            fewest_left(book)
            heals(book, book.names[0])
            bars(book, *book.names[:2])
            self.assertEqual(vars(book), before)

    def test_derived_classes(self):
        self.assertIs(is_part(BOOK, Row((Line("gem"), Line("rift")))), False)
        self.assertIs(shows_fewest_left(BOOK, Row((Line("gem"),))), True)
        for told in (heals(BOOK, Line("gem")), heals(STEEP, Line("gem")), bars(BOOK, Line("gem"), Line("rift"))):
            self.assertTrue(is_plain(told))

    def test_what_was_told_may_be_handed_in_again(self):
        for book, _ in many_books():
            for part in parts(book):
                self.assertIs(is_part(book, part), True)
                self.assertIs(is_part(book, part[1:]), True)
            left = fewest_left(book)
            self.assertIs(shows_fewest_left(book, left[1:]), not left)


if __name__ == "__main__":
    unittest.main()
