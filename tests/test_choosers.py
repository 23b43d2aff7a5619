"""Choosers: their texts, their nights, and what beats them (section 9)."""

import itertools
import unittest

from tests.oracles import ahead, chooser_anew, had, is_number, kinds_of, most_worth, pair
from tests.samples import FULL, ONE, SIX, THREE, Line, Row, Whole, book_of, calm_book, chances, is_plain, odd_values
from tests.samples import raised, same, some_book, some_weather, some_wishes, spoiled
from wheneverclear.best import best_worth
from wheneverclear.books import Book, up
from wheneverclear.choosers import Chooser, beaten, led, shows_beaten
from wheneverclear.errors import BadChooser, BadWeather, BadWishes
from wheneverclear.nights import fits, worth_of
from wheneverclear.quarrels import agrees, quarrels
from wheneverclear.words import is_less

BOOK = Book("book 3 1\nkind a 3 0-1\nkind b 2 0-2")
GAPS = Book("book 4 2\nkind a 1 1\nkind b 3/2 1 3")
FINE = Chooser(BOOK, "chooser\nhour 0 a b\nhour 1 a b\nhour 2 b")
OTHER = Chooser(BOOK, "chooser\nhour 0 b a\nhour 1 a b\nhour 2 b")
LAST = Chooser(BOOK, "chooser\nhour 0 a b\nhour 1 b a\nhour 2 b")


def text_of(rows):
    """The text of a chooser."""
    return "\n".join(["chooser"] + [" ".join(["hour", str(hour), *row]) for hour, row in enumerate(rows)])


def all_rows(book):
    """The rows of every chooser of a book."""
    return itertools.product(*(itertools.permutations(up(book, hour)) for hour in range(book.hours)))


def some_chooser(chance, book):
    """A chooser of the book, and its rows."""
    rows = tuple(tuple(chance.sample(up(book, hour), len(up(book, hour)))) for hour in range(book.hours))
    return Chooser(book, text_of(rows)), rows


def first_wrong_line(book, text):
    """The number that BadChooser tells, or None, by the document's words."""
    lines = text.split("\n")
    for number, line in enumerate(lines, start=1):
        if number == 1:
            can_stand = line == "chooser"
        else:
            hour = number - 2
            can_stand = hour < book.hours and line in [
                " ".join(["hour", str(hour), *row]) for row in itertools.permutations(up(book, hour))
            ]
        if not can_stand:
            return number
    return len(lines) + 1 if len(lines) < book.hours + 1 else None


def stays_ahead(kinds, rows):
    """Whether in each row each kind is ahead of all behind it."""
    return all(
        ahead(kinds, one, other, hour)
        for hour, row in enumerate(rows) for place, one in enumerate(row) for other in row[place:]
    )


def right_beaten(book, kinds, rows, value):
    """Whether a value is right as what beaten tells, by the document's words."""
    if type(value) is not tuple or not value or type(value[0]) is not str:
        return False
    if value == ("never",):
        return stays_ahead(kinds, rows)
    if len(value) != 3 or value[0] != "beaten":
        return False
    _, weather, wishes = value
    if type(weather) is not tuple or len(weather) != book.hours or type(wishes) is not tuple or len(wishes) > 24:
        return False
    if not all(is_number(clear, book.telescopes) for clear in weather):
        return False
    for wish in wishes:
        if type(wish) is not tuple or len(wish) != 2 or type(wish[0]) is not str or wish[0] not in kinds:
            return False
        if not is_number(wish[1], book.hours - 1):
            return False
    return most_worth(kinds, weather, wishes) > had(kinds, wishes, chooser_anew(kinds, rows, weather, wishes))


class TextTest(unittest.TestCase):
    def test_what_a_chooser_has(self):
        self.assertEqual(FINE.rows, (("a", "b"), ("a", "b"), ("b",)))
        self.assertIs(FINE.book, BOOK)
        self.assertEqual(FINE.text, "chooser\nhour 0 a b\nhour 1 a b\nhour 2 b")
        empty = Chooser(GAPS, "chooser\nhour 0\nhour 1 b a\nhour 2\nhour 3 b")
        self.assertTrue(same(empty.rows, ((), ("b", "a"), (), ("b",))))
        full = Chooser(FULL, text_of(["hgfedcba"] * 24))
        self.assertEqual(full.rows, (tuple("hgfedcba"),) * 24)

    def refused(self, book, text, number):
        self.assertEqual(first_wrong_line(book, text), number)
        self.assertEqual(raised(Chooser, book, text), (BadChooser, number), text)

    def test_lines_that_cannot_stand(self):
        good = FINE.text.split("\n")
        for number, lines in ((2, ["hour 0 a", "hour 0 b", "hour 0", "hour 0 a b a", "hour 0 a a", "hour 0 a b c",
                                   "hour 1 a b", "hour 00 a b", "hour +0 a b", "hour -0 a b", "hour 0  a b",
                                   "hour 0 a  b", "hour 0 a b ", " hour 0 a b", "Hour 0 a b", "hour a b", "hour 0, a b",
                                   "a b", "", "hour", "0 a b", "hour 0 A b", "hours 0 a b", "hour 0 ab", "hour 0\ta b",
                                   "hour 0 b a \r"]),
                              (4, ["hour 2 a", "hour 2 a b", "hour 2", "hour 2 ", "hour 3 b", "hour 2 b b",
                                   "hour 1 b"])):
            for line in lines:
                self.refused(BOOK, "\n".join(good[:number - 1] + [line] + good[number:]), number)

    def test_the_first_line(self):
        for line in ("", "chooser ", " chooser", "Chooser", "choosers", "chooser 1", "hour 0 a b", "book 3 1"):
            self.refused(BOOK, "\n".join([line] + FINE.text.split("\n")[1:]), 1)
        self.refused(BOOK, "", 1)
        self.refused(BOOK, "\n", 1)
        self.refused(BOOK, "\n" + FINE.text, 1)

    def test_lines_out_twice_exchanged_or_too_many(self):
        lines = FINE.text.split("\n")
        for many in range(1, 4):
            self.refused(BOOK, "\n".join(lines[:many]), many + 1)
        for place in range(1, 4):
            self.refused(BOOK, "\n".join(lines[:place] + lines[place + 1:]), min(place + 1, 4))
            self.refused(BOOK, "\n".join(lines[:place] + lines[place:place + 1] * 2 + lines[place + 1:]), place + 2)
        self.refused(BOOK, "\n".join([lines[0], lines[2], lines[1], lines[3]]), 2)
        self.refused(BOOK, "\n".join([lines[0], lines[1], lines[3], lines[2]]), 3)
        self.refused(BOOK, FINE.text + "\nhour 3", 5)
        self.refused(BOOK, FINE.text + "\nhour 3 a b", 5)

    def test_a_line_feed_at_the_end(self):
        self.refused(BOOK, FINE.text + "\n", 5)
        self.refused(BOOK, "chooser\n", 2)
        self.refused(BOOK, "chooser\nhour 0 a b\n", 3)

    def test_hours_at_which_no_kind_is_up(self):
        self.refused(GAPS, "chooser\nhour 0 ", 2)
        self.refused(GAPS, "chooser\nhour 0 -", 2)
        self.refused(GAPS, "chooser\nhour 0", 3)
        self.refused(GAPS, "chooser\nhour 0\nhour 1 a b\nhour 2\nhour 3", 5)
        self.refused(GAPS, "chooser\nhour 0\nhour 1 a b\n\nhour 3 b", 4)

    def test_the_first_of_several_lines(self):
        self.refused(BOOK, "chooser\nhour 0 a b\nhour 1 a\nhour 2\nhour 3", 3)
        self.refused(BOOK, "chooser\nhour 0 a b\nhour 1 a b\nhour 2\nhour 3", 4)

    def test_what_is_no_string(self):
        for value in odd_values():
            if type(value) is not str:
                self.assertEqual(raised(Chooser, BOOK, value), (BadChooser, 0))
            else:
                self.refused(BOOK, value, 1)
        for value in (b"chooser", FINE, [FINE.text], (FINE.text,)):
            self.assertEqual(raised(Chooser, BOOK, value), (BadChooser, 0))

    def test_every_text_that_has_a_sign_more_or_less(self):
        for book, text in ((BOOK, FINE.text), (GAPS, "chooser\nhour 0\nhour 1 b a\nhour 2\nhour 3 b")):
            near = [text[:place] + text[place + 1:] for place in range(len(text))]
            near += [text[:place] + sign + text[place:] for place in range(len(text) + 1) for sign in " \nab01-"]
            for other in near:
                number = first_wrong_line(book, other)
                due = None if number is None else (BadChooser, number)
                self.assertEqual(raised(Chooser, book, other), due, other)

    def test_all_choosers_of_small_books(self):
        for book in (BOOK, GAPS, ONE, THREE, Book("book 2 1\nkind c 1 0-1\nkind a 1 0-1\nkind b 1 1")):
            for rows in all_rows(book):
                self.assertTrue(same(Chooser(book, text_of(rows)).rows, rows))

    def test_texts_for_another_book(self):
        self.assertEqual(raised(Chooser, ONE, FINE.text), (BadChooser, 2))
        self.assertEqual(raised(Chooser, SIX, FINE.text), (BadChooser, 2))

    def test_ten_hours_and_more(self):
        rows = ["a" if hour % 3 else "" for hour in range(24)]
        spans = " ".join(f"{hour}-{hour + 1}" for hour in range(1, 24, 3))
        book = Book(f"book 24 1\nkind a 1 {spans}")
        self.assertEqual(Chooser(book, text_of(rows)).rows, tuple(("a",) if row else () for row in rows))
        self.refused(book, text_of(rows).replace("hour 22 a", "hour 022 a"), 24)
        self.refused(book, text_of(rows[:23]), 25)

    def test_by_name_and_plain(self):
        made = Chooser(text=Line(FINE.text), book=BOOK)
        self.assertTrue(is_plain(made.text) and is_plain(made.rows))
        self.assertEqual(made, FINE)


class EqualTest(unittest.TestCase):
    def test_books_and_texts(self):
        again = Chooser(Book(BOOK.text), FINE.text)
        self.assertTrue(again == FINE and not again != FINE)
        self.assertTrue(FINE != OTHER and not FINE == OTHER)
        like = Book("book 3 1\nkind a 4 0-1\nkind b 2 0-2")
        self.assertFalse(Chooser(like, FINE.text) == FINE)
        self.assertTrue(Chooser(like, FINE.text) != FINE)

    def test_nothing_else(self):
        for value in odd_values() + [FINE.text, FINE.rows, BOOK, (BOOK, FINE.text), object()]:
            self.assertIs(FINE == value, False)
            self.assertIs(value == FINE, False)
            self.assertIs(FINE != value, True)


class LedTest(unittest.TestCase):
    def test_rows_and_numbers(self):
        self.assertEqual(led(FINE, (1, 0, 1), (("b", 0), ("a", 0), ("a", 1))), ((0, 1), (2, 0)))
        self.assertEqual(led(OTHER, (1, 0, 1), (("b", 0), ("a", 0))), ((0, 0),))
        self.assertEqual(led(OTHER, (1, 1, 1), (("a", 0), ("a", 0), ("b", 1))), ((0, 0), (1, 1), (2, 2)))
        book = Book("book 2 3\nkind a 1 0-1\nkind b 5 0-1")
        upside = Chooser(book, "chooser\nhour 0 a b\nhour 1 b a")
        wishes = (("b", 0), ("a", 0), ("b", 0), ("a", 0), ("a", 1), ("b", 1))
        self.assertEqual(led(upside, (3, 0), wishes), ((0, 0), (0, 1), (0, 3)))
        self.assertEqual(led(upside, (1, 3), wishes), ((0, 1), (1, 0), (1, 2), (1, 5)))
        self.assertEqual(led(upside, (0, 3), wishes[::-1]), ((1, 0), (1, 3), (1, 5)))

    def test_nothing(self):
        self.assertEqual(led(FINE, (1, 1, 1), ()), ())
        self.assertEqual(led(FINE, (0, 0, 0), (("a", 0), ("b", 2))), ())
        self.assertEqual(led(FINE, (1, 1, 1), (("a", 2),)), ())

    def test_all_nights_of_a_few_wishes(self):
        for rows in all_rows(BOOK):
            chooser = Chooser(BOOK, text_of(rows))
            kinds = kinds_of(BOOK)
            for wishes in itertools.product(itertools.product("ab", range(3)), repeat=2):
                for weather in itertools.product(range(2), repeat=3):
                    told = led(chooser, weather, wishes)
                    self.assertTrue(same(told, chooser_anew(kinds, rows, weather, wishes)))

    def test_many_nights(self):
        for chance in chances(200):
            book, kinds = some_book(chance)
            chooser, rows = some_chooser(chance, book)
            weather, wishes = some_weather(chance, book), some_wishes(chance, book)
            told = led(chooser, weather, wishes)
            self.assertTrue(is_plain(told) and same(told, chooser_anew(kinds, rows, weather, wishes)))
            self.assertEqual(fits(book, weather, wishes, told), ("fits",))
            again = Chooser(Book(book.text), chooser.text)
            self.assertTrue(same(told, led(again, weather, wishes)))

    def test_wrong_weathers_and_wishes(self):
        weathers = odd_values() + spoiled((1, 0, 1)) + [(2, 0, 0), (1, 1), [1, 1, 1], (True, 1, 1)]
        for value in weathers:
            is_right = type(value) is tuple and len(value) == 3 and all(is_number(clear, 1) for clear in value)
            due = None if is_right else (BadWeather, value)
            self.assertEqual(raised(led, FINE, value, ()), due)
            self.assertEqual(raised(led, chooser=FINE, wishes=(), weather=value), due)
        for value in [(("a", 0),) * 25, (("a", 3),), (("c", 0),), [("a", 0)], (["a", 0],), (("a", True),), None, "a",
                      (("a", 0), None), {}, 0, ("a", 0), (("a",),)]:
            self.assertEqual(raised(led, FINE, (1, 1, 1), value), (BadWishes, value))
            self.assertEqual(raised(led, FINE, [1, 1, 1], value), (BadWeather, [1, 1, 1]))
        self.assertIsNone(raised(led, FINE, (1, 1, 1), (("a", 0),) * 24))

    def test_derived_classes(self):
        wishes = Row((Row((Line("b"), Whole(0))), Row((Line("a"), Whole(0)))))
        self.assertTrue(same(led(FINE, Row((Whole(1), 0, Whole(1))), wishes), ((0, 1), (2, 0))))


class BeatenTest(unittest.TestCase):
    def test_fine_ones(self):
        self.assertEqual(beaten(FINE), ("never",))
        self.assertEqual(beaten(Chooser(ONE, "chooser\nhour 0 a")), ("never",))
        self.assertEqual(beaten(Chooser(FULL, text_of(["hgfedcba"] * 24))), ("never",))

    def test_in_each_hour(self):
        for chooser in (OTHER, LAST):
            told = beaten(chooser)
            self.assertEqual(told[0], "beaten")
            self.assertTrue(right_beaten(BOOK, kinds_of(BOOK), chooser.rows, told))
        twice = Chooser(BOOK, "chooser\nhour 0 b a\nhour 1 b a\nhour 2 b")
        self.assertTrue(right_beaten(BOOK, kinds_of(BOOK), twice.rows, beaten(twice)))

    def test_kinds_that_are_not_neighbours(self):
        book = Book("book 3 1\nkind a 2 0-1\nkind b 3 0-2\nkind c 1 0-2")
        for rows in all_rows(book):
            chooser = Chooser(book, text_of(rows))
            told = beaten(chooser)
            self.assertEqual(told == ("never",), stays_ahead(kinds_of(book), rows))
            self.assertTrue(right_beaten(book, kinds_of(book), rows, told))

    def test_all_choosers_of_small_books(self):
        hours = [lot for many in (1, 2, 3) for lot in itertools.combinations(range(3), many)]
        for own, other in itertools.product(hours, hours):
            for worths in (((1, 1), (1, 1)), ((1, 1), (3, 2))):
                kinds = {"b": (worths[0], own), "a": (worths[1], other)}
                book = book_of(3, 2, kinds)
                told = []
                for rows in all_rows(book):
                    chooser = Chooser(book, text_of(rows))
                    told.append(beaten(chooser))
                    self.assertTrue(is_plain(told[-1]) and right_beaten(book, kinds, rows, told[-1]))
                    self.assertIs(shows_beaten(chooser, told[-1]), True)
                self.assertEqual(("never",) in told, quarrels(book) == ())

    def test_never_is_never_on_small_nights(self):
        books = [BOOK, Book("book 2 2\nkind a 2 0-1\nkind b 2 0-1"), Book("book 2 2\nkind a 2 0\nkind b 1 0-1"),
                 Book("book 2 1\nkind a 1 0\nkind b 2 0-1"), GAPS]
        for book in books:
            kinds = kinds_of(book)
            for rows in all_rows(book):
                chooser = Chooser(book, text_of(rows))
                is_beaten = False
                for many in range(3):
                    for wishes in itertools.product(itertools.product("ab", range(2)), repeat=many):
                        for weather in itertools.product(range(2), repeat=book.hours):
                            worth = pair(had(kinds, wishes, led(chooser, weather, wishes)))
                            is_beaten = is_beaten or is_less(worth, best_worth(book, weather, wishes))
                self.assertEqual(is_beaten, beaten(chooser) != ("never",))

    def test_many_books(self):
        seen = set()
        for number, chance in enumerate(chances(200)):
            book, kinds = calm_book(chance) if number % 2 else some_book(chance)
            chooser, rows = some_chooser(chance, book)
            told = beaten(chooser)
            self.assertTrue(is_plain(told) and right_beaten(book, kinds, rows, told))
            self.assertIs(shows_beaten(chooser, told), True)
            self.assertTrue(same(told, beaten(chooser)) and same(told, beaten(Chooser(Book(book.text), chooser.text))))
            seen.add(told[0])
        self.assertEqual(seen, {"never", "beaten"})


class ShowsTest(unittest.TestCase):
    def test_all_nights_of_small_books(self):
        for chooser in (FINE, OTHER, LAST):
            kinds = kinds_of(BOOK)
            seen = 0
            for many in range(4):
                for wishes in itertools.product((("a", 0), ("b", 0), ("a", 1), ("b", 2)), repeat=many):
                    for weather in itertools.product(range(2), repeat=3):
                        value = "beaten", weather, wishes
                        told = right_beaten(BOOK, kinds, chooser.rows, value)
                        self.assertIs(shows_beaten(chooser, value), told)
                        seen += told
            self.assertEqual(seen > 0, chooser != FINE)

    def test_never(self):
        self.assertIs(shows_beaten(FINE, ("never",)), True)
        for chooser in (OTHER, LAST):
            self.assertIs(shows_beaten(chooser, ("never",)), False)
        for value in ("never", ["never"], ("never", ()), ("Never",), (("never",),), ("never", None), ("beaten",), ()):
            self.assertIs(shows_beaten(FINE, value), False)

    def test_values_near_right_ones(self):
        for chooser, value in ((OTHER, ("beaten", (1, 0, 1), (("b", 0), ("a", 0)))), (OTHER, beaten(OTHER)),
                               (LAST, beaten(LAST)), (FINE, ("never",))):
            self.assertIs(shows_beaten(chooser, value), True)
            near = spoiled(value)
            for other in near:
                told = right_beaten(BOOK, kinds_of(BOOK), chooser.rows, other)
                self.assertIs(shows_beaten(chooser, other), told, other)
            self.assertGreater(len(near), 20)

    def test_weathers_and_wishes_that_are_none(self):
        wishes = (("b", 0), ("a", 0))
        for weather in ((1, 0), (1, 0, 1, 0), (True, 0, 1), (1, False, 1), [1, 0, 1], (2, 0, 1), (1, -1, 1), None,
                        "101"):
            self.assertIs(shows_beaten(OTHER, ("beaten", weather, wishes)), False)
        for lot in ([("b", 0), ("a", 0)], (["b", 0], ["a", 0]), (("b", 0), ("a", False)), (("b", 0), ("a", 3)), None,
                    wishes + (("c", 0),), wishes + (None,), wishes * 12 + wishes[:1], ("b", "a"), (("b",), ("a",))):
            self.assertIs(shows_beaten(OTHER, ("beaten", (1, 0, 1), lot)), False)
        self.assertIs(shows_beaten(OTHER, ("beaten", (1, 0, 1), wishes * 12)), True)

    def test_any_value(self):
        for chooser in (FINE, OTHER, LAST, Chooser(ONE, "chooser\nhour 0 a")):
            right = beaten(chooser)
            near = [list(right), (right,), right + (None,), right[::-1] + (0,), FINE, OTHER, (FINE,)]
            for value in odd_values() + near:
                self.assertIs(shows_beaten(chooser, value), False, value)

    def test_of_a_book_with_several_telescopes(self):
        book = Book("book 3 4\nkind a 3 0-1\nkind b 2 0-2")
        chooser = Chooser(book, OTHER.text)
        four = (("b", 0),) * 4 + (("a", 0),) * 4
        for weather in ((4, 0, 4), (4, 0, 0), (4, 4, 0), (4, 4, 4), (2, 0, 4), (3, 3, 3)):
            told = right_beaten(book, kinds_of(book), chooser.rows, ("beaten", weather, four))
            self.assertIs(shows_beaten(chooser, ("beaten", weather, four)), told)
        self.assertIs(shows_beaten(chooser, ("beaten", (4, 0, 4), four)), True)
        self.assertIs(shows_beaten(chooser, ("beaten", (5, 0, 4), four)), False)

    def test_by_name(self):
        self.assertEqual(beaten(chooser=FINE), ("never",))
        self.assertIs(shows_beaten(value=("never",), chooser=FINE), True)
        self.assertEqual(led(wishes=(("a", 0),), weather=(1, 0, 0), chooser=FINE), ((0, 0),))

    def test_arguments_are_not_changed(self):
        before = {name: vars(FINE)[name] for name in ("book", "text", "rows")}
        value = ["beaten", [1, 0, 1], [("b", 0)]]
        self.assertIs(shows_beaten(FINE, value), False)
        self.assertIs(shows_beaten(FINE, tuple(value)), False)
        self.assertEqual(value, ["beaten", [1, 0, 1], [("b", 0)]])
        led(FINE, (1, 1, 1), (("a", 0),))
        beaten(FINE)
        self.assertEqual({name: vars(FINE)[name] for name in before}, before)


class ForAllChoosersTest(unittest.TestCase):
    """The sentences in bold, and those below the rows."""

    def test_each_chooser_that_is_beaten_with_a_night_that_beats_it(self):
        count = 0
        for chance in chances(300):
            book, kinds = some_book(chance, 8)
            chooser, rows = some_chooser(chance, book)
            told = beaten(chooser)
            self.assertEqual(told == ("never",), stays_ahead(kinds, rows))
            if told[0] == "beaten":
                _, weather, wishes = told
                worth = had(kinds, wishes, chooser_anew(kinds, rows, weather, wishes))
                self.assertGreater(most_worth(kinds, weather, wishes), worth)
                self.assertEqual(worth_of(book, wishes, led(chooser, weather, wishes)), pair(worth))
                count += 1
        self.assertGreater(count, 100)

    def test_rows_of_agrees_are_never_beaten(self):
        for chance in chances(100):
            book, kinds = calm_book(chance)
            chooser = Chooser(book, text_of(agrees(book)[1]))
            self.assertEqual(beaten(chooser), ("never",))
            for _ in range(3):
                weather, wishes = some_weather(chance, book), some_wishes(chance, book)
                worth = worth_of(book, wishes, led(chooser, weather, wishes))
                self.assertEqual(worth, best_worth(book, weather, wishes))
                self.assertIs(shows_beaten(chooser, ("beaten", weather, wishes)), False)

    def test_a_book_has_one_exactly_if_no_two_kinds_quarrel(self):
        for chance in chances(100):
            book, kinds = some_book(chance, 3, 3) if chance.random() < 0.5 else calm_book(chance, 3, 3)
            are_never = [beaten(Chooser(book, text_of(rows))) == ("never",) for rows in all_rows(book)]
            self.assertEqual(any(are_never), quarrels(book) == ())


if __name__ == "__main__":
    unittest.main()
