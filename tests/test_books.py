"""Books and what is told of them (section 4)."""

import re
import unittest

from tests.samples import FULL, ONE, SIX, Line, Whole, chances, is_plain, odd_values, raised, same, some_amount
from tests.samples import some_book, some_hours, some_spans, spoiled
from wheneverclear.books import Book, hours_of, later, rank_at, up, with_kind, without, worth
from wheneverclear.errors import BadBook, BadHours, BadName, BadWorth, Last, NoHour, NoKind, There, TooMany

KIND = re.compile(r"kind ([a-z]{1,6}) (\S+)((?: [0-9-]+)+)")
EIGHT = "".join(f"\nkind {name} 1 0" for name in "abcdefgh")


def is_told(word, most):
    """Whether a word is a number from 0 to most, as Python writes it."""
    return word in [str(number) for number in range(most + 1)]


def worth_stands(word):
    """Whether a word tells a worth, by all fractions that there are."""
    top, _, bottom = word.partition("/")
    if not is_told(top, 1000) or top == "0":
        return False
    if "/" not in word:
        return True
    if not is_told(bottom, 1000) or bottom in ("0", "1"):
        return False
    return not any(int(top) % part == 0 and int(bottom) % part == 0 for part in range(2, 1001))


def spans_stand(words, hours):
    """Whether words are the one row of spans of some hours below hours."""
    found = []
    for word in words:
        ends = word.split("-")
        if len(ends) > 2 or not all(is_told(end, hours - 1) for end in ends):
            return False
        found += range(int(ends[0]), int(ends[-1]) + 1)
    return found == sorted(set(found)) and found != [] and some_spans(found) == " ".join(words)


def first_wrong(text):
    """The number that BadBook tells of a text, or None, told anew by the document's words."""
    lines = text.split("\n")
    head = re.fullmatch(r"book ([1-9]|1[0-9]|2[0-4]) ([1-4])", lines[0])
    if not head:
        return 1
    names = []
    for number, line in enumerate(lines[1:], start=2):
        kind = KIND.fullmatch(line)
        if not kind or kind[1] in names or len(names) == 8 or not worth_stands(kind[2]):
            return number
        if not spans_stand(kind[3][1:].split(" "), int(head[1])):
            return number
        names.append(kind[1])
    return None if names else len(lines) + 1


class TextsTest(unittest.TestCase):
    def refused(self, text, number):
        self.assertEqual(raised(Book, text), (BadBook, number), text)

    def test_what_is_no_string(self):
        for value in odd_values():
            if type(value) is not str:
                self.refused(value, 0)
        self.refused(["book 6 2", "kind a 1 0"], 0)
        self.assertIs(type(raised(Book, None)[1]), int)

    def test_strings_that_are_no_books(self):
        for value in odd_values():
            if type(value) is str:
                self.refused(value, 2 if value == "book 1 1" else 1)

    def test_first_lines(self):
        for hours in range(1, 25):
            for telescopes in range(1, 5):
                book = Book(f"book {hours} {telescopes}\nkind a 1 0")
                self.assertEqual((book.hours, book.telescopes), (hours, telescopes))
        wrong = [
            "", "book", "book 6", "book 6 2 1", "book 0 1", "book 25 1", "book 6 0", "book 6 5", "book -1 1",
            "book 06 1",
            "book 6 01", "book +6 1", "book 6  2", " book 6 2", "book 6 2 ", "book a 2", "book 6 b", "Book 6 2",
            "kind 6 2",
            "book 6.0 2", "book 6 2\r", "book\t6 2", "book 6 2/1", "book 1_0 2", "book 9999999999999 1", "book 6 -2",
        ]
        for line in wrong:
            self.refused(line + "\nkind a 1 0", 1)
            self.refused(line, 1)
            self.refused(line + "\nwrong", 1)

    def test_lines_that_cannot_stand(self):
        wrong = [
            "", " ", "kind", "kind b", "kind b 1", "kind b 1 ", "kind  b 1 0", "kind b 1 0 ", " kind b 1 0",
            "kind b 1  0",
            "kind B 1 0", "kind abcdefg 1 0", "kind b1 1 0", "kind  1 0", "kind a 1 0", "kinds b 1 0", "Kind b 1 0",
            "kind b 0 0", "kind b -1 0", "kind b 1001 0", "kind b 1/1001 0", "kind b 1001/2 0", "kind b 2/4 0",
            "kind b 3/1 0",
            "kind b 1/0 0", "kind b 0/1 0", "kind b 1/ 0", "kind b /2 0", "kind b 01 0", "kind b 1/02 0",
            "kind b 1.5 0",
            "kind b 1/2/3 0", "kind b 1 6", "kind b 1 5-6", "kind b 1 -1", "kind b 1 00", "kind b 1 0-0",
            "kind b 1 2-1",
            "kind b 1 0-", "kind b 1 -", "kind b 1 0 1", "kind b 1 0-2 3", "kind b 1 0-2 2-4", "kind b 1 3 1",
            "kind b 1 0 0",
            "kind b 1 0,2", "kind b 1 a", "kind b 1 0-01", "kind b 1 0--2", "kind b 1 0-1-2", "book 6 2",
            "kind b 1 0\t2",
            "kind b 1 0 2 3-4", "kind b 1 0-9999999999999",
        ]
        for line in wrong:
            self.refused("book 6 2\nkind a 1 0\n" + line, 3)
            self.refused("book 6 2\nkind a 1 0\n" + line + "\nkind c 1 0\nwrong", 3)
            self.refused("book 6 2\nkind z 1 0\nkind a 1 1\n" + line, 4)

    def test_lines_that_can_stand(self):
        told = {
            "kind b 1 0": ((1, 1), (0,)), "kind abcdef 1000 0-5": ((1000, 1), (0, 1, 2, 3, 4, 5)),
            "kind b 1/1000 5": ((1, 1000), (5,)),
            "kind b 1000/999 0 2 4": ((1000, 999), (0, 2, 4)),
            "kind b 999/1000 0-1 3-5": ((999, 1000), (0, 1, 3, 4, 5)),
            "kind b 5/2 0 2-3 5": ((5, 2), (0, 2, 3, 5)), "kind zzzzzz 1/2 4-5": ((1, 2), (4, 5)),
        }
        for line, (amount, hours) in told.items():
            book = Book("book 6 2\n" + line)
            self.assertEqual((worth(book, book.names[0]), hours_of(book, book.names[0])), (amount, hours))
            self.assertEqual(book.names, (line.split(" ")[1],))

    def test_no_kind_lacks_a_line(self):
        self.refused("book 6 2", 2)
        self.refused("book 6 2\n", 2)
        self.refused("", 1)
        self.refused("\n", 1)

    def test_a_line_feed_at_the_end(self):
        self.refused("book 6 2\nkind a 1 0\n", 3)
        self.refused("book 6 2\nkind a 1 0\n\n", 3)
        self.refused("book 6 2\nkind a 1 0\nkind b 1 0\n", 4)
        self.refused("book 6 2\r\nkind a 1 0", 1)
        self.refused("book 6 2\nkind a 1 0\r\nkind b 1 0", 2)

    def test_a_ninth_kind(self):
        self.assertEqual(len(Book("book 1 1" + EIGHT)), 8)
        self.refused("book 1 1" + EIGHT + "\nkind i 1 0", 10)
        self.refused("book 1 1" + EIGHT + "\nkind i 1 0\nkind j 1 0", 10)
        self.refused("book 1 1" + EIGHT + "\nwrong", 10)
        self.refused("book 1 1" + EIGHT + "\n", 10)
        self.refused("book 1 1\nkind h 1 0" + EIGHT, 10)
        self.refused("book 1 1\nkind g 1 0" + EIGHT, 9)

    def test_texts_with_a_few_signs_otherwise(self):
        seen = set()
        for chance in chances(3000):
            text = some_book(chance, 24, 8 if chance.random() < 0.1 else 3)[0].text
            for _ in range(chance.randint(0, 2)):
                place = chance.randrange(len(text) + 1)
                behind = place + chance.randint(0, 2)
                sign = chance.choice(["", "", "0", "1", "2", "-", "/", " ", "\n", "a", "kind", " 1"])
                text = text[:place] + sign + text[behind:]
            number = first_wrong(text)
            seen.add(number)
            self.assertEqual(raised(Book, text), None if number is None else (BadBook, number), text)
        self.assertGreater(len(seen), 6)

    def test_all_spans_of_a_short_book(self):
        words = ["0", "1", "2", "3", "0-1", "0-2", "1-2", "0-3", "1-3", "2-3", "0-0", "2-1", "1-4"]
        rows = [[one] for one in words] + [[one, two] for one in words for two in words]
        for row in rows:
            number = None if spans_stand(row, 4) else (BadBook, 2)
            self.assertEqual(raised(Book, "book 4 1\nkind a 1 " + " ".join(row)), number, row)

    def test_the_first_wrong_line_is_told(self):
        self.refused("wrong\nwrong", 1)
        self.refused("book 6 2\nkind a 1 0\nwrong\nkind a 1 0", 3)
        self.refused("book 6 2\nkind a 1 0\nkind a 1 0\nwrong", 3)


class PropertiesTest(unittest.TestCase):
    def test_properties(self):
        text = "book 6 2\nkind moon 3 0-2 5\nkind comet 5/2 1-3\nkind dim 1 4"
        book = Book(text)
        self.assertEqual((book.text, book.hours, book.telescopes), (text, 6, 2))
        self.assertEqual((book.names, len(book)), (("moon", "comet", "dim"), 3))
        self.assertEqual((ONE.hours, ONE.telescopes, ONE.names, len(ONE)), (1, 1, ("a",), 1))
        self.assertEqual((FULL.hours, FULL.telescopes, FULL.names, len(FULL)), (24, 4, tuple("abcdefgh"), 8))

    def test_text_by_name(self):
        self.assertEqual(Book(text=SIX.text), SIX)

    def test_books_are_equal_if_their_texts_are(self):
        self.assertIs(Book(SIX.text) == SIX, True)
        self.assertIs(Book(SIX.text) != SIX, False)
        other = Book("book 6 2\nkind comet 5/2 1-3\nkind moon 3 0-2 5\nkind dim 1 4")
        self.assertIs(other == SIX, False)
        self.assertIs(other != SIX, True)
        for value in odd_values() + [SIX.text, (SIX.text,), SIX.names, 3]:
            if type(value) is not Book:
                self.assertIs(SIX == value, False, value)
                self.assertIs(SIX != value, True, value)

    def test_texts_of_a_derived_class_are_told_plainly(self):
        for text in (SIX.text, ONE.text):
            book = Book(Line(text))
            self.assertIs(type(book.text), str)
            self.assertEqual(book.text, text)
            self.assertTrue(is_plain(book.names))


class ToldOfKindsTest(unittest.TestCase):
    def test_all_that_is_told_of_many_books(self):
        for chance in chances(300):
            book, kinds = some_book(chance)
            self.assertEqual((book.names, len(book)), (tuple(kinds), len(kinds)))
            for kind, (amount, hours) in kinds.items():
                self.assertTrue(same(worth(book, kind), amount))
                self.assertTrue(same(hours_of(book, kind), hours))
                for hour in range(book.hours):
                    self.assertTrue(same(later(book, kind, hour), tuple(own for own in hours if own > hour)))
            for hour in range(book.hours):
                self.assertTrue(same(up(book, hour), tuple(sorted(kind for kind in kinds if hour in kinds[kind][1]))))

    def test_up_is_ascending_by_name(self):
        book = Book("book 2 1\nkind z 1 0\nkind ab 1 0-1\nkind a 1 0\nkind b 1 0")
        self.assertEqual([up(book, 0), up(book, 1)], [("a", "ab", "b", "z"), ("ab",)])
        self.assertEqual(up(Book("book 2 1\nkind a 1 0"), 1), ())

    def test_later_hours_of_a_kind_that_is_not_up(self):
        self.assertEqual([later(SIX, "moon", hour) for hour in (3, 4, 5)], [(5,), (5,), ()])
        self.assertEqual(later(ONE, "a", 0), ())

    def test_no_kind(self):
        for value in odd_values() + spoiled("moon"):
            if type(value) is str and value in SIX.names:
                continue
            calls = [lambda: worth(SIX, value), lambda: hours_of(SIX, value), lambda: without(SIX, value),
                     lambda: later(SIX, value, 0), lambda: later(SIX, value, 99)]
            for call in calls if value == "a" else calls + [lambda: without(ONE, value)]:
                error = raised(call)
                self.assertEqual(error and error[0], NoKind)
                self.assertIs(error[1], value)

    def test_no_hour(self):
        for value in odd_values() + spoiled(5):
            if type(value) is int and 0 <= value < 6:
                self.assertIsNone(raised(up, SIX, value))
                self.assertIsNone(raised(later, SIX, "moon", value))
                continue
            for call in (lambda: up(SIX, value), lambda: later(SIX, "moon", value)):
                error = raised(call)
                self.assertEqual(error[0], NoHour)
                self.assertIs(error[1], value)

    def test_arguments_by_name(self):
        self.assertEqual(worth(kind="comet", book=SIX), (5, 2))
        self.assertEqual(hours_of(kind="comet", book=SIX), (1, 2, 3))
        self.assertEqual(up(hour=4, book=SIX), ("dim",))
        self.assertEqual(later(hour=1, kind="moon", book=SIX), (2, 5))
        self.assertEqual(without(kind="moon", book=SIX).names, ("comet", "dim"))
        self.assertEqual(with_kind(hours=(0,), amount=(1, 1), name="b", book=ONE).text, ONE.text + "\nkind b 1 0")

    def test_hours_of_a_derived_class(self):
        self.assertTrue(same(up(SIX, Whole(4)), ("dim",)))
        self.assertTrue(same(later(SIX, Line("moon"), Whole(1)), (2, 5)))


class RanksTest(unittest.TestCase):
    def test_more_worth_then_fewer_later_hours(self):
        book = Book("book 4 1\nkind far 3/2 0-2\nkind low 3/2 0-1\nkind dim 1/3 0-3\nkind alike 3/2 0 3")
        self.assertEqual(rank_at(book, 0), {"far": (-9, 2), "low": (-9, 1), "dim": (-2, 3), "alike": (-9, 1)})
        self.assertEqual(rank_at(book, 1), {"far": (-9, 1), "low": (-9, 0), "dim": (-2, 2)})
        self.assertEqual(rank_at(Book("book 2 1\nkind a 1 1"), 0), {})


class WithoutTest(unittest.TestCase):
    def test_each_kind_is_taken_out_of_its_place(self):
        for chance in chances(100):
            book, kinds = some_book(chance)
            for place, kind in enumerate(book.names):
                lines = book.text.split("\n")
                del lines[place + 1]
                if len(book) == 1:
                    self.assertEqual(raised(without, book, kind), (Last, None))
                else:
                    self.assertEqual(without(book, kind).text, "\n".join(lines))
                    self.assertEqual(without(book, kind).names, book.names[:place] + book.names[place + 1:])

    def test_the_last_kind_stays(self):
        self.assertEqual(raised(without, ONE, "a"), (Last, None))
        self.assertEqual(raised(without, ONE, "b"), (NoKind, "b"))
        self.assertEqual(ONE.names, ("a",))


class WithKindTest(unittest.TestCase):
    def test_many_kinds_are_put_behind_all_others(self):
        for chance in chances(300):
            book = some_book(chance, 24, 7)[0]
            word, amount = some_amount(chance)
            hours = some_hours(chance, book.hours)
            more = with_kind(book, "new", amount, hours)
            self.assertEqual(more.text, f"{book.text}\nkind new {word} {some_spans(hours)}")
            self.assertEqual(more.names, book.names + ("new",))
            self.assertEqual((worth(more, "new"), hours_of(more, "new")), (amount, hours))

    def wrong_one(self, error, value, *values):
        told = raised(with_kind, *values)
        self.assertEqual(told and told[0], error, values)
        self.assertIs(told[1], value)

    def test_bad_names(self):
        for value in odd_values() + spoiled("abcdef") + ["abcdefg", "A", "a1", "a\n", "\u00e9"]:
            if type(value) is str and re.fullmatch("[a-z]{1,6}", value) and "\n" not in value:
                if value not in SIX.names:
                    self.assertEqual(with_kind(SIX, value, (1, 1), (0,)).names[-1], value)
            else:
                self.wrong_one(BadName, value, SIX, value, (1, 1), (0,))

    def test_names_that_are_there(self):
        for name in SIX.names:
            self.assertEqual(raised(with_kind, SIX, name, (1, 1), (0,)), (There, name))

    def test_bad_worths(self):
        right = [(1, 1), (1000, 1), (1, 1000), (1000, 999), (999, 1000), (2, 3)]
        for value in right:
            self.assertEqual(worth(with_kind(SIX, "b", value, (0,)), "b"), value)
        wrong = [
            (0, 1), (-1, 1), (1, 0), (1, -1), (2, 4), (1001, 1), (1, 1001), (1001, 1000), (2, 2), (True, 1),
            (1, True), [1, 2], "1/2", 1,
            (1,), (1, 2, 3), None, ((1, 2),), ("1", "2"), (1, None), (10**11, 1), (1, 10**11), (False, 1),
        ]
        for value in wrong:
            self.wrong_one(BadWorth, value, SIX, "b", value, (0,))
        for value in odd_values() + spoiled((3, 2)):
            is_right = type(value) is tuple and len(value) == 2 and all(type(part) is int for part in value)
            if not (is_right and worth_stands(f"{value[0]}/{value[1]}".removesuffix("/1"))):
                self.wrong_one(BadWorth, value, SIX, "b", value, (0,))

    def test_bad_hours(self):
        more = [(0, 0), (1, 0), (6,), (-1,), (5, 6), (), (True, 2), (False,), [0]]
        for value in odd_values() + spoiled((0, 2, 3, 5)) + more:
            is_right = type(value) is tuple and value != () and all(type(hour) is int for hour in value)
            if is_right and set(value) <= set(range(6)) and list(value) == sorted(set(value)):
                self.assertEqual(hours_of(with_kind(SIX, "b", (1, 1), value), "b"), value)
            else:
                self.wrong_one(BadHours, value, SIX, "b", (1, 1), value)

    def test_too_many(self):
        self.assertEqual(raised(with_kind, FULL, "i", (1, 1), (0,)), (TooMany, 9))
        seven = without(FULL, "c")
        self.assertEqual(len(with_kind(seven, "i", (1, 1), (0,))), 8)

    def test_the_sequence_of_the_errors(self):
        names, amounts, hours = ("Bad", "a", "i"), ((0, 1), (1, 1)), ((), (0,))
        for book in (FULL, ONE):
            for name in names:
                for amount in amounts:
                    for told in hours:
                        due = (
                            (BadName, "Bad") if name == "Bad" else (There, "a") if name == "a"
                            else (BadWorth, (0, 1)) if amount == (0, 1) else (BadHours, ()) if told == ()
                            else (TooMany, 9) if book is FULL else None
                        )
                        self.assertEqual(raised(with_kind, book, name, amount, told), due)

    def test_told_plainly_what_is_of_derived_classes(self):
        more = with_kind(SIX, Line("b"), (Whole(3), Whole(2)), (Whole(0), Whole(1)))
        self.assertEqual(more.text, SIX.text + "\nkind b 3/2 0-1")
        self.assertTrue(is_plain((more.text, more.names, worth(more, "b"), hours_of(more, "b"))))


class ForAllBooksTest(unittest.TestCase):
    def test_put_in_and_taken_out_again(self):
        for chance in chances(200, 2):
            book = some_book(chance, 24, 7)[0]
            text = book.text
            more = with_kind(book, "new", some_amount(chance)[1], some_hours(chance, book.hours))
            self.assertEqual(without(more, "new"), book)
            self.assertEqual((book.text, Book(text) == book, len(more)), (text, True, len(book) + 1))

    def test_a_kind_is_up_just_at_its_hours(self):
        for chance in chances(200, 3):
            book = some_book(chance)[0]
            for kind in book.names:
                told = tuple(hour for hour in range(book.hours) if kind in up(book, hour))
                self.assertEqual(hours_of(book, kind), told)

    def test_all_is_plain_and_calls_are_alike(self):
        for chance in chances(50, 4):
            book = some_book(chance)[0]
            again = Book(book.text)
            before = dict(vars(book))
            for kind in book.names:
                for call in (worth, hours_of):
                    self.assertTrue(is_plain(call(book, kind)))
                    self.assertTrue(same(call(book, kind), call(again, kind)))
                self.assertTrue(same(later(book, kind, 0), later(again, kind, 0)))
            self.assertTrue(same(up(book, 0), up(again, 0)))
            self.assertTrue(is_plain((book.text, book.hours, book.telescopes, book.names)))
            self.assertTrue(is_plain((up(book, 0), later(book, book.names[0], 0))))
            raised(with_kind, book, book.names[0], (1, 1), (0,))
            raised(without, book, "nobody")
            self.assertEqual(vars(book), before)


if __name__ == "__main__":
    unittest.main()
