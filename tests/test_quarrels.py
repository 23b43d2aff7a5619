"""Quarrels: which kind is ahead of which, rows of kinds, and after-weathers (section 6)."""

import itertools
import unittest

from tests.oracles import ahead, all_quarrels, amount, do_quarrel, had_after, is_row, kinds_of, most
from tests.oracles import right_agrees, up_at
from tests.samples import FULL, ONE, SIX, Line, Row, Whole, book_of, calm_book, chances, is_plain, odd_values, raised
from tests.samples import same, some_book, spoiled
from wheneverclear.best import best_worth
from wheneverclear.books import Book
from wheneverclear.errors import NoHour, NoKind, NotUp
from wheneverclear.quarrels import agrees, is_ahead, quarrels, shows_agrees

CALM = Book("book 6 2\nkind comet 3 0-2\nkind moon 2 1-5\nkind star 1 0-5")
ODD = Book("book 4 1\nkind gem 1 0-1\nkind sun 2 0 3")
EVEN = Book("book 2 1\nkind one 2 0-1\nkind two 2 0-1")
# The worthier kind waits longer; both have an hour that the other one has not; equal worths, hours that cross.
TORN = [
    Book("book 2 1\nkind gem 1 0\nkind sun 2 0-1"), ODD, Book("book 3 1\nkind a 1 0-1\nkind b 1 0 2"),
    Book("book 3 2\nkind b 3/2 0-2\nkind a 2 0-1\nkind c 5/3 0 2"),
]


def lots_of_hours(hours):
    """Every ascending tuple of one hour or more."""
    return [
        lot for many in range(1, hours + 1) for lot in itertools.combinations(range(hours), many)
    ]


def pairs_of_kinds(hours):
    """Every book of two kinds, of equal worth or of a less and a greater one."""
    for own, other in itertools.product(lots_of_hours(hours), repeat=2):
        for worths in (((1, 1), (1, 1)), ((1, 2), (2, 3)), ((5, 1), (9, 2))):
            yield {"b": (worths[0], own), "a": (worths[1], other)}


def after_weathers(many):
    return itertools.product((0, 1), repeat=many)


class AheadTest(unittest.TestCase):
    def test_worth_and_later_hours(self):
        book = Book("book 5 1\nkind a 2 0-1 4\nkind b 1 0-2\nkind c 2 0-1 4\nkind d 1 0-4\nkind e 3 4")
        self.assertIs(is_ahead(book, "a", "b", 0), False)
        self.assertIs(is_ahead(book, "b", "a", 0), False)
        self.assertIs(is_ahead(book, "a", "d", 0), True)
        self.assertIs(is_ahead(book, "d", "a", 0), False)
        self.assertIs(is_ahead(book, "a", "c", 1), True)
        self.assertIs(is_ahead(book, "c", "a", 1), True)
        self.assertIs(is_ahead(book, "e", "a", 4), True)
        self.assertIs(is_ahead(book, "a", "e", 4), False)
        self.assertIs(is_ahead(book, "d", "b", 2), False)
        self.assertIs(is_ahead(book, "b", "d", 2), True)

    def test_hours_ahead_of_the_hour_do_not_matter(self):
        book = Book("book 4 1\nkind a 2 0-3\nkind b 1 2-3")
        self.assertIs(is_ahead(book, "a", "b", 2), True)

    def test_a_kind_is_ahead_of_itself(self):
        for name in CALM.names:
            for hour in range(6):
                if hour in kinds_of(CALM)[name][1]:
                    self.assertIs(is_ahead(CALM, name, name, hour), True)

    def test_worths_are_compared_exactly(self):
        book = Book("book 1 1\nkind a 999/1000 0\nkind b 998/999 0\nkind c 1000/999 0\nkind d 1/3 0\nkind e 333/1000 0")
        order = ["c", "a", "b", "d", "e"]
        for one, other in itertools.product(order, order):
            self.assertIs(is_ahead(book, one, other, 0), order.index(one) <= order.index(other))

    def test_all_pairs_of_kinds(self):
        for kinds in pairs_of_kinds(3):
            book = book_of(3, 1, kinds)
            for one, other, hour in itertools.product("ab", "ab", range(3)):
                up = up_at(kinds, hour)
                if one in up and other in up:
                    self.assertIs(is_ahead(book, one, other, hour), ahead(kinds, one, other, hour))
                else:
                    due = one if one not in up else other
                    self.assertEqual(raised(is_ahead, book, one, other, hour), (NotUp, due))

    def test_many_books(self):
        for chance in chances(100):
            book, kinds = some_book(chance)
            for hour in range(book.hours):
                for one, other in itertools.product(up_at(kinds, hour), repeat=2):
                    self.assertIs(is_ahead(book, one, other, hour), ahead(kinds, one, other, hour))


class AheadErrorsTest(unittest.TestCase):
    def test_not_up(self):
        self.assertEqual(raised(is_ahead, CALM, "comet", "star", 3), (NotUp, "comet"))
        self.assertEqual(raised(is_ahead, CALM, "star", "comet", 3), (NotUp, "comet"))
        self.assertEqual(raised(is_ahead, CALM, "comet", "comet", 3), (NotUp, "comet"))
        self.assertEqual(raised(is_ahead, SIX, "dim", "comet", 0), (NotUp, "dim"))
        self.assertEqual(raised(is_ahead, SIX, "comet", "dim", 0), (NotUp, "comet"))

    def test_wrong_values(self):
        for value in odd_values() + spoiled("comet") + spoiled(2):
            is_kind = type(value) is str and value in CALM.names
            if not is_kind:
                for call in (lambda: is_ahead(CALM, value, "star", 0), lambda: is_ahead(CALM, "star", value, 0)):
                    told = raised(call)
                    self.assertEqual(told and told[0], NoKind, value)
                    self.assertIs(told[1], value)
            if not (type(value) is int and 0 <= value < 6):
                told = raised(is_ahead, CALM, "star", "star", value)
                self.assertEqual(told and told[0], NoHour, value)
                self.assertIs(told[1], value)

    def test_the_sequence_of_the_errors(self):
        wrong = [None, ["comet"], "none", True]
        for one, other, hour in itertools.product(["comet", *wrong], ["moon", *wrong], [1, 0, 3, 6, -1, True, None]):
            due = None
            if one in wrong:
                due = NoKind, one
            elif other in wrong:
                due = NoKind, other
            elif type(hour) is not int or not 0 <= hour < 6:
                due = NoHour, hour
            elif hour == 3:
                due = NotUp, "comet"
            elif hour == 0:
                due = NotUp, "moon"
            self.assertEqual(raised(is_ahead, CALM, one, other, hour), due)
            self.assertEqual(raised(is_ahead, hour=hour, other=other, one=one, book=CALM), due)

    def test_kinds_and_hours_of_another_book(self):
        self.assertEqual(raised(is_ahead, ONE, "moon", "a", 0), (NoKind, "moon"))
        self.assertEqual(raised(is_ahead, ONE, "a", "a", 1), (NoHour, 1))


class QuarrelsTest(unittest.TestCase):
    def test_which_and_when(self):
        self.assertEqual(quarrels(CALM), ())
        self.assertEqual(quarrels(FULL), ())
        self.assertEqual(quarrels(ONE), ())
        self.assertEqual(quarrels(ODD), (("gem", "sun", 0),))
        book = Book("book 4 1\nkind z 1 0-2\nkind b 2 0-3\nkind a 2 0-1 3")
        self.assertEqual(quarrels(book), (("a", "z", 0), ("a", "z", 1), ("b", "z", 0), ("b", "z", 1), ("b", "z", 2)))

    def test_all_pairs_of_kinds(self):
        for kinds in pairs_of_kinds(3):
            told = tuple(("a", "b", hour) for hour in range(3) if do_quarrel(kinds, "a", "b", hour))
            self.assertTrue(same(quarrels(book_of(3, 1, kinds)), told))

    def test_many_books(self):
        seen = set()
        for number, chance in enumerate(chances(200)):
            book, kinds = some_book(chance) if number % 4 else calm_book(chance)
            told = tuple(sorted(row for row in all_quarrels(kinds, book.hours) if row[0] < row[1]))
            self.assertTrue(same(quarrels(book), told))
            seen.add(told == ())
        self.assertEqual(seen, {True, False})


class AgreesTest(unittest.TestCase):
    def test_small_books(self):
        self.assertEqual(agrees(CALM)[0], "agrees")
        self.assertEqual(agrees(ONE), ("agrees", (("a",),)))
        self.assertEqual(agrees(Book("book 4 1\nkind a 1 1\nkind b 2 1 3"))[:1], ("quarrels",))
        self.assertEqual(agrees(Book("book 4 1\nkind a 2 1\nkind b 2 1 3")), ("agrees", ((), ("a", "b"), (), ("b",))))
        self.assertEqual(len(agrees(FULL)[1]), 24)
        for row in agrees(FULL)[1]:
            self.assertEqual(sorted(row), list("abcdefgh"))

    def test_all_pairs_of_kinds(self):
        for kinds in pairs_of_kinds(3):
            book = book_of(3, 1, kinds)
            told = agrees(book)
            self.assertTrue(is_plain(told) and right_agrees(kinds, 3, told))
            self.assertIs(shows_agrees(book, told), True)
            self.assertEqual(told[0] == "agrees", not all_quarrels(kinds, 3))

    def test_many_books(self):
        seen = set()
        for number, chance in enumerate(chances(200)):
            book, kinds = some_book(chance) if number % 2 else calm_book(chance)
            told = agrees(book)
            self.assertTrue(is_plain(told) and right_agrees(kinds, book.hours, told))
            self.assertIs(shows_agrees(book, told), True)
            self.assertTrue(same(told, agrees(book)) and same(told, agrees(Book(book.text))))
            seen.add(told[0])
            if told[0] == "quarrels":
                pair = tuple(sorted(told[1:3])) + (told[3],)
                self.assertIn(pair, quarrels(book))
            else:
                self.assertEqual(quarrels(book), ())
        self.assertEqual(seen, {"agrees", "quarrels"})


class ShowsTest(unittest.TestCase):
    def test_all_rows_of_small_books(self):
        books = [EVEN, TORN[0], Book("book 2 1\nkind a 2 0\nkind b 1 0-1\nkind c 1 0-1"), Book("book 2 1\nkind a 1 1")]
        for book in books:
            kinds = kinds_of(book)
            rows = [row for many in range(len(kinds) + 1) for row in itertools.permutations(book.names, many)]
            rows += [("a", "a"), ("one", "one"), ("one", "two", "one"), ("none",), (None,), (0,), ["one", "two"], None]
            right = 0
            for lot in itertools.product(rows, repeat=2):
                told = ("agrees", lot)
                self.assertIs(shows_agrees(book, told), right_agrees(kinds, 2, told))
                right += shows_agrees(book, told)
            self.assertEqual(right, {EVEN.text: 4, books[2].text: 4, books[3].text: 1}.get(book.text, 0))

    def test_all_quarrels_of_small_books(self):
        for book in TORN + [EVEN]:
            kinds = kinds_of(book)
            right = 0
            for one, other, hour in itertools.product([*book.names, "none"], book.names, range(-1, book.hours + 1)):
                many = max(book.hours - hour - 1, 0)
                for after_one, after_other in itertools.product(after_weathers(many), repeat=2):
                    told = ("quarrels", one, other, hour, after_one, after_other)
                    self.assertIs(shows_agrees(book, told), right_agrees(kinds, book.hours, told), told)
                    right += shows_agrees(book, told)
            self.assertEqual(right > 0, bool(quarrels(book)))
            self.assertIs(shows_agrees(book, ("agrees", ((),) * book.hours)), False)

    def test_after_weathers_of_all_pairs_of_kinds(self):
        for kinds in pairs_of_kinds(3):
            book = book_of(3, 1, kinds)
            for hour in range(3):
                afters = list(after_weathers(2 - hour))
                for after_one, after_other in itertools.product(afters, afters):
                    told = ("quarrels", "a", "b", hour, after_one, after_other)
                    self.assertIs(shows_agrees(book, told), right_agrees(kinds, 3, told))

    def test_after_weathers_of_another_form(self):
        right = ("quarrels", "gem", "sun", 0, (0, 0, 0), (0, 0, 1))
        self.assertIs(shows_agrees(ODD, right), True)
        for after in ((0, 0), (0, 0, 0, 0), (False, False, False), [0, 0, 0], (0, 0, 2), (0, 0, -1), (), None, 0,
                      ("0", "0", "0"), (0, (0,), 0), "000", (0, 0, None)):
            self.assertIs(shows_agrees(ODD, right[:4] + (after, (0, 0, 1))), False)
            self.assertIs(shows_agrees(ODD, right[:4] + ((0, 0, 0), after)), False)
        self.assertIs(shows_agrees(ODD, right[:5] + ((0, 0, True),)), False)
        self.assertIs(shows_agrees(ODD, right[:3] + (False,) + right[4:]), False)
        self.assertIs(shows_agrees(ODD, ("quarrels", "sun", "gem", 0, (0, 0, 0), (0, 0, 1))), False)

    def test_other_kinds_at_an_hour_than_those_that_quarrel(self):
        book = Book("book 3 1\nkind a 1 0\nkind b 2 0-1\nkind c 1 0")
        self.assertEqual(quarrels(book), (("a", "b", 0), ("b", "c", 0)))
        for one, other in itertools.product("abc", repeat=2):
            told = shows_agrees(book, ("quarrels", one, other, 0, (0, 0), (1, 0)))
            self.assertIs(told, (one, other) in (("a", "b"), ("c", "b")))

    def test_any_value(self):
        for book in (CALM, ODD, EVEN, SIX, ONE, FULL):
            right = agrees(book)
            near = [right[:1], right + (None,), list(right), (right,), right[0], right[1:], (right[0], right)]
            for value in odd_values() + near:
                self.assertIs(shows_agrees(book, value), False, value)

    def test_values_near_right_ones(self):
        for book in (CALM, ODD, EVEN, ONE, *TORN):
            kinds = kinds_of(book)
            near = spoiled(agrees(book))
            for value in near:
                self.assertIs(shows_agrees(book, value), right_agrees(kinds, book.hours, value), value)
            self.assertGreater(len(near), 100)

    def test_what_one_book_tells_another_one_does_not_show(self):
        self.assertIs(shows_agrees(CALM, agrees(ODD)), False)
        self.assertIs(shows_agrees(ODD, agrees(CALM)), False)
        self.assertIs(shows_agrees(EVEN, agrees(TORN[0])), False)

    def test_what_was_told_may_be_exchanged(self):
        for chance in chances(60):
            book, kinds = some_book(chance, 6, 4)
            told = agrees(book)
            if told[0] == "quarrels":
                word, one, other, hour, after_one, after_other = told
                self.assertIs(shows_agrees(book, (word, other, one, hour, after_other, after_one)), True)
                changed = (word, one, other, hour, after_other, after_one)
                self.assertIs(shows_agrees(book, changed), right_agrees(kinds, book.hours, changed))


class ArgumentsTest(unittest.TestCase):
    def test_by_name(self):
        self.assertIs(is_ahead(hour=0, other="star", one="comet", book=CALM), True)
        self.assertEqual(quarrels(book=ODD), (("gem", "sun", 0),))
        self.assertEqual(agrees(book=ODD), agrees(ODD))
        self.assertIs(shows_agrees(value=agrees(ODD), book=ODD), True)

    def test_they_are_not_changed(self):
        before = dict(vars(ODD))
        value = ["quarrels", "gem", "sun", 0, [0, 0, 0], [0, 0, 1]]
        self.assertIs(shows_agrees(ODD, value), False)
        self.assertIs(shows_agrees(ODD, tuple(value)), False)
        self.assertEqual(value, ["quarrels", "gem", "sun", 0, [0, 0, 0], [0, 0, 1]])
        raised(is_ahead, ODD, value, value, value)
        agrees(ODD)
        quarrels(ODD)
        self.assertEqual(vars(ODD), before)

    def test_strings_and_numbers_of_derived_classes(self):
        self.assertIs(is_ahead(CALM, Line("comet"), Line("star"), Whole(0)), True)
        value = Row(("quarrels", Line("gem"), "sun", Whole(0), Row((0, 0, Whole(0))), (0, 0, 1)))
        self.assertIs(shows_agrees(ODD, value), True)


class ForAllBooksTest(unittest.TestCase):
    """The sentences in bold, and those below the rows."""

    def test_kinds_stand_in_a_row_exactly_if_none_quarrel(self):
        for number, chance in enumerate(chances(150)):
            book, kinds = some_book(chance, 4, 4) if number % 2 else calm_book(chance, 5, 4)
            told = agrees(book)
            for hour in range(book.hours):
                rows = [row for row in itertools.permutations(up_at(kinds, hour)) if is_row(kinds, hour, row)]
                is_torn = any(at == hour for _, _, at in quarrels(book))
                self.assertEqual(not rows, is_torn)
                if told[0] == "agrees":
                    self.assertIn(told[1][hour], rows)
            self.assertEqual(told[0] == "agrees", quarrels(book) == ())

    def test_each_quarrel_with_its_two_after_weathers(self):
        count = 0
        for chance in chances(60):
            book, kinds = some_book(chance, 6, 3)
            for one, other, hour in quarrels(book):
                afters = list(after_weathers(book.hours - hour - 1))
                against_one = [after for after in afters if self.best_after(kinds, one, other, hour, after) < 0]
                against_other = [after for after in afters if self.best_after(kinds, other, one, hour, after) < 0]
                self.assertTrue(against_one and against_other)
                for after_one, after_other in itertools.product(afters, afters):
                    is_right = after_one in against_one and after_other in against_other
                    value = ("quarrels", one, other, hour, after_one, after_other)
                    self.assertIs(shows_agrees(book, value), is_right)
                    count += is_right
        self.assertGreater(count, 50)

    def best_after(self, kinds, one, other, hour, after):
        """What is had with one looked at, less what is had with other looked at, by a trial of all ways."""
        weather = (0,) * (hour + 1) + after
        told = [
            amount(kinds, first) + most(kinds, weather, ((second, 0),), lambda kind: amount(kinds, kind))
            for first, second in ((one, other), (other, one))
        ]
        self.assertEqual(told[0], had_after(kinds, one, other, hour, after))
        return told[0] - told[1]

    def test_none_of_both_is_beaten_by_clouds_alone(self):
        for book in TORN:
            for one, other, hour in quarrels(book):
                weather = tuple(1 if at == hour else 0 for at in range(book.hours))
                self.assertNotEqual(best_worth(book, weather, ((one, hour), (other, hour))), (0, 1))


if __name__ == "__main__":
    unittest.main()
