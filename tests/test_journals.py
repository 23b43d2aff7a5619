"""Journals: what tells a bench, and how it is read back (section 14)."""

import re
import unittest
from fractions import Fraction

from tests.samples import FULL, SIX, Line, book_of, chances, is_plain, odd_values, raised, same, some_amount, some_book
from tests.samples import some_hours, some_spans
from wheneverclear.bench import Bench
from wheneverclear.books import Book, hours_of, worth
from wheneverclear.errors import BadBook, BadJournal, NightError
from wheneverclear.journals import journal, read_journal

TEXT = "book 4 1\nkind a 2 0-1\nkind b 1 0-2"
HEAD = "bench\n" + TEXT
FRACTION = re.compile(r"(-?(?:0|[1-9][0-9]*))(?:/([1-9][0-9]*))?")


def fraction_told(word):
    """The fraction that a word tells, as a tuple, or None."""
    found = FRACTION.fullmatch(word)
    if not found or word.startswith("-0"):
        return None
    top, bottom = int(found[1]), int(found[2] or 1)
    told = Fraction(top, bottom)
    if (told.numerator, told.denominator) != (top, bottom) or found[2] == "1":
        return None
    return top, bottom


def hours_told(words):
    """The hours from 0 to 99 that a row of spans tells, or None."""
    hours = []
    for word in words:
        if not re.fullmatch(r"(0|[1-9][0-9]?)(-(0|[1-9][0-9]?))?", word):
            return None
        ends = [int(part) for part in word.split("-")]
        if len(ends) == 2 and ends[0] >= ends[1] or hours and ends[0] < hours[-1] + 2:
            return None
        hours += range(ends[0], ends[-1] + 1)
    return tuple(hours)


def deed_told(hours, kinds, line):
    """The kinds behind the deed that a line tells, or None: it has no form, or is refused."""
    words = line.split(" ")
    if "" in words:
        return None
    if words[0] == "cut" and len(words) == 2 and words[1] in kinds and len(kinds) > 1:
        return {name: kinds[name] for name in kinds if name != words[1]}
    if words[0] in ("price", "add") and len(words) > 2:
        amount = fraction_told(words[2])
        if not amount or not 1 <= min(amount) <= max(amount) <= 1000:
            return None
        if words[0] == "price" and len(words) == 3 and words[1] in kinds:
            return {**kinds, words[1]: (amount, kinds[words[1]][1])}
        if words[0] == "add" and len(words) > 3 and words[1] not in kinds and re.fullmatch("[a-z]{1,6}", words[1]):
            own = hours_told(words[3:])
            if own and own[-1] < hours and len(kinds) < 8:
                return {**kinds, words[1]: (amount, own)}
    return None


def read_anew(text):
    """(number that BadJournal tells, None), or (None, the kinds at the end), by the document's words."""
    lines = text.split("\n")
    if lines[0] != "bench":
        return 1, None
    end = 1
    while end < len(lines) and not re.match("(add|cut|price)( |$)", lines[end]):
        end += 1
    refused = raised(Book, "\n".join(lines[1:end]))
    if refused:
        assert refused[0] is BadBook
        return refused[1] + 1, None
    book = Book("\n".join(lines[1:end]))
    kinds = {name: (worth(book, name), hours_of(book, name)) for name in book.names}
    for number, line in enumerate(lines[end:], start=end + 1):
        kinds = deed_told(book.hours, kinds, line)
        if kinds is None:
            return number, None
    return None, kinds


def some_bench(chance, many=8):
    """A bench with some deeds, some of them undone."""
    book, _ = some_book(chance, 8)
    bench = Bench(book.text)
    for _ in range(many):
        name = chance.choice(["a", "z", "moon", "comet", "abcdef", "dim", "star", "ab", "zzzzzz", "b"])
        deed = chance.choice((
            lambda: bench.add(name, some_amount(chance)[1], some_hours(chance, book.hours)),
            lambda: bench.cut(name), lambda: bench.price(name, some_amount(chance)[1]), bench.undo,
        ))
        try:
            deed()
        except NightError:
            pass
    return bench


def near_ones(chance, text):
    """Texts that come of a journal, a line or a sign of it being otherwise."""
    lines = text.split("\n")
    for place, line in enumerate(lines):
        rest = lines[:place], lines[place + 1:]
        yield rest[0] + rest[1]
        yield rest[0] + [line, line] + rest[1]
        other = chance.randrange(len(lines))
        exchanged = list(lines)
        exchanged[place], exchanged[other] = lines[other], line
        yield exchanged
        for put_in in ("", "cut", "add", "price", "cut a", "price a 1", "add q 1 0", "undo", "bench", "kind q 1 0", " ",
                       "cutter", "add ", "book 4 1"):
            yield rest[0] + [put_in, line] + rest[1]
        words = line.split(" ")
        at = chance.randrange(len(words))
        for wrong in (words[:at] + words[at + 1:], words[:at] + [""] + words[at:], words + ["1"], words + [""],
                      words[:at] + [words[at] + "x"] + words[at + 1:], words[:at] + ["0" + words[at]] + words[at + 1:],
                      words[:at] + ["9"] + words[at + 1:]):
            yield rest[0] + [" ".join(wrong)] + rest[1]
    yield lines + [""]
    yield lines + ["cut"]


class JournalTest(unittest.TestCase):
    def test_of_the_document(self):
        bench = Bench(TEXT)
        bench.price("b", (3, 1))
        bench.add("c", (1, 2), (1, 3))
        bench.undo()
        told = journal(bench)
        self.assertEqual(told.split("\n"), ["bench", "book 4 1", "kind a 2 0-1", "kind b 1 0-2", "price b 3"])
        self.assertTrue(read_journal(told) == bench)

    def test_without_deeds(self):
        for text in (TEXT, FULL.text, SIX.text):
            self.assertEqual(journal(Bench(text)), "bench\n" + text)
            self.assertEqual(read_journal("bench\n" + text).book, Book(text))

    def test_all_deeds(self):
        bench = Bench(TEXT)
        bench.add("moon", (7, 3), (0, 2, 3))
        bench.cut("a")
        bench.price("moon", (1000, 999))
        bench.add("a", (1, 1), (3,))
        told = journal(bench)
        self.assertTrue(is_plain(told))
        lines = ["add moon 7/3 0 2-3", "cut a", "price moon 1000/999", "add a 1 3"]
        self.assertEqual(told, "\n".join([HEAD] + lines))
        self.assertEqual(journal(bench=bench), told)

    def test_of_a_bench_within_a_block(self):
        bench = Bench(TEXT)
        with bench.trial():
            bench.cut("a")
            self.assertEqual(journal(bench), HEAD + "\ncut a")
        self.assertEqual(journal(bench), HEAD)

    def test_journals_are_read_back(self):
        for chance in chances(150):
            bench = some_bench(chance)
            text = journal(bench)
            other = read_journal(text)
            self.assertIs(type(other), Bench)
            self.assertTrue(other == bench)
            self.assertEqual([journal(other), other.book, other.done, other.verdict],
                             [text, bench.book, bench.done, bench.verdict])
            # Each deed stands one by one, and nothing is there to be done again.
            self.assertIsNotNone(raised(other.redo))
            while bench.done:
                bench.undo()
                other.undo()
                self.assertEqual(journal(other), journal(bench))
            self.assertIsNotNone(raised(other.undo))

    def test_great_journals_that_were_told(self):
        bench = Bench(TEXT)
        for number in range(600):
            bench.price("a", (number % 1000 + 1, 1))
        told = journal(bench)
        self.assertGreater(len(told), 4000)
        other = read_journal(told)
        self.assertTrue(other == bench and other.done == 600)
        self.assertEqual(raised(read_journal, told + "\ncut c"), (BadJournal, 605))


class ReadJournalTest(unittest.TestCase):
    def refused(self, text, number):
        self.assertEqual(raised(read_journal, text), (BadJournal, number), text)

    def test_what_is_no_string(self):
        for value in odd_values():
            if type(value) is str:
                self.refused(value, 1)
            else:
                self.refused(value, 0)

    def test_first_lines(self):
        for text in ("", "\n", "Bench\n" + TEXT, "bench \n" + TEXT, " bench\n" + TEXT, TEXT, "\n" + HEAD,
                     "bench 1\n" + TEXT, "benchbook 4 1", "cut a", "bench" + TEXT):
            self.refused(text, 1)

    def test_books_that_cannot_stand(self):
        self.refused("bench", 2)
        self.refused("bench\n", 2)
        self.refused("bench\nbook 4 1", 3)
        self.refused("bench\nbook 4 1\n", 3)
        self.refused("bench\nbook 0 1\nkind a 1 0", 2)
        self.refused("bench\nbook 4 1\nkind a 1 4", 3)
        self.refused("bench\nbook 4 1\nkind a 1 0\nkind a 1 0", 4)
        self.refused(HEAD + "\n", 5)
        self.refused(HEAD + "\nkind c 1 5", 5)
        self.refused("bench\n" + FULL.text + "\nkind i 1 0", 11)
        self.refused("bench\n" + HEAD, 2)

    def test_where_the_book_ends(self):
        # A deed as the first line behind the first one: the book is the text without signs.
        for line in ("cut a", "cut", "add", "price b 3", "add c 1 0", "cut ", "price "):
            self.refused("bench\n" + line, 2)
            self.refused("bench\n" + line + "\n" + TEXT, 2)
            self.refused("bench\nbook 4 1\n" + line, 3)
            self.refused("bench\nbook 4 1\n" + line + "\nkind a 1 0", 3)
        # The word of a deed alone, or ahead of a blank, ends the book; so the line is told, not the book's ones.
        for line in ("cut", "add", "price", "cut ", "cut  a", "add c", "price b"):
            self.refused(HEAD + "\n" + line, 5)
            self.refused(HEAD + "\n" + line + "\nkind c 9 9", 5)
            self.refused("bench\nbook 9 9\n" + line, 2)
        for line in ("cutter", "adds c 1 0", "priced b 3", "Cut a", " cut a", "undo", "redo", "book 4 1", "verdict",
                     "cut-a"):
            self.refused(HEAD + "\n" + line, 5)
        self.refused(HEAD + "\nundo\ncut a", 5)

    def test_lines_behind_the_first_deed(self):
        for line in ("kind d 1 0", "", "cut", "bench", "book 4 1", "undo", " ", "cut c", "cut a b", "price a",
                     "price a 2/2", "price a 0", "price a 1001", "price d 1", "add d 1 4", "add d 1 0 1", "add a 1 0",
                     "add toolong 1 0", "add D 1 0", "add d 0 0", "add d -1 0", "add d 1 0-0", "add d 1"):
            self.refused(HEAD + "\nprice b 3\n" + line, 6)
            self.refused(HEAD + "\nprice b 3\nprice b 4\n" + line + "\ncut a", 7)

    def test_hours_up_to_99(self):
        for spans in ("4", "0-4", "99", "0-99", "0 2-99", "1 98-99"):
            self.refused(HEAD + "\nadd c 1 " + spans, 5)
        book = "bench\nbook 24 1\nkind a 1 0"
        self.assertEqual(hours_of(read_journal(book + "\nadd c 1 0 2-23").book, "c"), (0, *range(2, 24)))
        for spans in ("24", "0 2-24", "99", "100", "0-100"):
            self.refused(book + "\nadd c 1 " + spans, 4)

    def test_deeds_that_are_refused_in_their_turn(self):
        self.assertEqual(read_journal(HEAD + "\ncut a\nadd a 1 3").book.names, ("b", "a"))
        self.refused(HEAD + "\nadd a 1 3\ncut a", 5)
        self.refused(HEAD + "\ncut a\ncut a", 6)
        self.refused(HEAD + "\ncut a\ncut b", 6)
        self.refused(HEAD + "\ncut a\nprice a 1\ncut b", 6)
        self.refused("bench\n" + FULL.text + "\ncut a\nadd a 1 0\nadd i 1 0", 13)

    def test_other_forms_of_the_same(self):
        told = HEAD + "\nprice a 3/2\nadd c 1/2 0-1 3"
        self.assertEqual(read_journal(told).done, 2)
        for wrong, number in ((told.replace("3/2", "6/4"), 5), (told.replace("1/2", "2/4"), 6),
                              (told.replace("3/2", "3/1"), 5),
                              (told.replace("0-1 3", "0 1 3"), 6), (told.replace("0-1 3", "3 0-1"), 6),
                              (told.replace("price a", "price  a"), 5), (told.replace("c 1/2", "c 01/2"), 6),
                              (told + " ", 6), (told + "\n", 7), (told.replace("\nadd", "\n\nadd"), 6)):
            self.refused(wrong, number)

    def test_lines_out_twice_exchanged_and_put_in(self):
        seen = set()
        for chance in chances(25):
            bench = some_bench(chance)
            for lines in near_ones(chance, journal(bench)):
                text = "\n".join(lines)
                number, kinds = read_anew(text)
                if number is None:
                    other = read_journal(text)
                    self.assertEqual(journal(other), text)
                    self.assertEqual(other.book, book_of(other.book.hours, other.book.telescopes, kinds))
                else:
                    self.refused(text, number)
                seen.add(number)
        self.assertGreater(len(seen), 10)

    def test_by_name_and_again(self):
        self.assertEqual(read_journal(text=HEAD).book, Book(TEXT))
        one, other = read_journal(HEAD), read_journal(HEAD)
        self.assertTrue(one == other and one is not other)
        one.cut("a")
        self.assertEqual(other.done, 0)

    def test_derived_classes(self):
        bench = read_journal(Line(HEAD + "\nadd c 1/2 0-1 3"))
        self.assertTrue(is_plain((journal(bench), bench.book.text, bench.book.names)))
        self.assertTrue(same(worth(bench.book, "c"), (1, 2)))
        self.assertEqual(some_spans(hours_of(bench.book, "c")), "0-1 3")


if __name__ == "__main__":
    unittest.main()
