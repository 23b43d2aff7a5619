"""The examples of the document, row by row, and the cases in parentheses below them."""

import doctest
import os
import unittest

from tests.samples import raised
from wheneverclear.books import Book, hours_of, later, with_kind
from wheneverclear.errors import BadBook, There
from wheneverclear.nights import fits, open_at

README = os.path.join(os.path.dirname(os.path.dirname(os.path.abspath(__file__))), "README.md")

BOOKS = r"""
>>> from wheneverclear.books import Book, hours_of, later, up, with_kind, without, worth
>>> book = Book('book 6 2\nkind moon 3 0-2 5\nkind comet 5/2 1-3\nkind dim 1 4')
>>> [book.hours, book.telescopes, book.names, len(book), worth(book, 'comet'), hours_of(book, 'moon')]
[6, 2, ('moon', 'comet', 'dim'), 3, (5, 2), (0, 1, 2, 5)]
>>> [up(book, 1), up(book, 4), later(book, 'moon', 1), later(book, 'comet', 0), later(book, 'dim', 5)]
[('comet', 'moon'), ('dim',), (2, 5), (1, 2, 3), ()]
>>> more = with_kind(book, 'ember', (2, 3), (0, 2, 3, 4))
>>> [more.text.split('\n')[-1], without(more, 'moon').names, without(more, 'ember') == book]
['kind ember 2/3 0 2-4', ('comet', 'dim', 'ember'), True]
"""

NIGHTS = r"""
>>> from wheneverclear.books import Book
>>> from wheneverclear.nights import cut, fits, is_lesser, open_at, worth_of
>>> book = Book('book 3 2\nkind mars 5 0-1\nkind vega 3/2 0-2')
>>> wishes = (('vega', 0), ('mars', 0), ('mars', 1), ('vega', 1))
>>> [fits(book, (1, 1, 2), wishes, looks) for looks in (((0, 1), (1, 2), (2, 0), (2, 3)), ((0, 2),), ((0, 0), (0, 1)), ((0, 1), (2, 1)))]
[('fits',), ('wrong', 0), ('wrong', 1), ('wrong', 1)]
>>> [worth_of(book, wishes, ((0, 1), (1, 2), (2, 0))), worth_of(book, wishes, ()), worth_of(book, wishes, ((0, 1), (1, 1)))]
[(23, 2), (0, 1), (5, 1)]
>>> [open_at(book, wishes, ((0, 1),), 0), open_at(book, wishes, ((0, 1),), 1), open_at(book, wishes, ((0, 1), (1, 2)), 2)]
[(0, 1), (0, 2, 3), (0, 3)]
>>> [is_lesser(book, (0, 1, 2), (1, 1, 2)), is_lesser(book, (0, 2, 0), (1, 1, 2)), cut(book, (1, 1, 2), 1)]
[True, False, (1, 0, 0)]
"""


def failures(text):
    """What a run of the examples in a text says of those that fail."""
    said = []
    test = doctest.DocTestParser().get_doctest(text, {}, "examples", None, 0)
    assert test.examples
    doctest.DocTestRunner(verbose=False).run(test, out=said.append)
    return "".join(said)


class RowsTest(unittest.TestCase):
    def test_books(self):
        self.assertEqual(failures(BOOKS), "")

    def test_nights(self):
        self.assertEqual(failures(NIGHTS), "")

    def test_readme(self):
        with open(README, encoding="utf-8") as file:
            self.assertEqual(failures(file.read()), "")

    def test_a_wrong_row_is_seen(self):
        self.assertNotEqual(failures(BOOKS.replace("(5, 2)", "(5, 3)")), "")


class BelowTheRowsTest(unittest.TestCase):
    def test_lines_of_kinds_that_cannot_stand(self):
        for line in ("kind a 1 0-2 3", "kind a 1 4-4", "kind a 1 6", "kind a 1 3 1"):
            self.assertEqual(raised(Book, "book 6 2\n" + line), (BadBook, 2), line)

    def test_a_kind_lacks(self):
        self.assertEqual(raised(Book, "book 6 2"), (BadBook, 2))

    def test_there_stands_ahead_of_bad_hours(self):
        book = Book("book 6 2\nkind moon 3 0-2 5\nkind comet 5/2 1-3\nkind dim 1 4")
        self.assertEqual(raised(with_kind, book, "dim", (0, 1), ()), (There, "dim"))

    def test_why_looks_do_not_fit(self):
        book = Book("book 3 2\nkind mars 5 0-1\nkind vega 3/2 0-2")
        wishes = (("vega", 0), ("mars", 0), ("mars", 1), ("vega", 1))
        self.assertNotIn(2, open_at(book, wishes, (), 0))
        self.assertIn(2, open_at(book, wishes, (), 1))
        self.assertEqual(fits(book, (2, 1, 2), wishes, ((0, 0), (0, 1))), ("fits",))
        self.assertEqual(hours_of(book, "mars"), (0, 1))
        self.assertEqual(later(book, "mars", 1), ())
        self.assertNotIn(1, open_at(book, wishes, ((0, 1),), 2))


if __name__ == "__main__":
    unittest.main()
