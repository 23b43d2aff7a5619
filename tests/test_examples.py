"""The examples of the document, row by row, and the cases in parentheses below them."""

import doctest
import os
import unittest

from tests.samples import raised
from wheneverclear.bench import Bench
from wheneverclear.best import best_worth, counts, shows_best
from wheneverclear.books import Book, hours_of, later, up, with_kind, with_worth, worth
from wheneverclear.choosers import Chooser, led, shows_beaten
from wheneverclear.desk import Desk
from wheneverclear.enough import doable, enough, shows_why_enough, surely
from wheneverclear.errors import BadBook, BadChooser, NotUp, There
from wheneverclear.games import loss, plan_of
from wheneverclear.nights import fits, open_at, worth_of
from wheneverclear.observatory import Night
from wheneverclear.parts import bars
from wheneverclear.quarrels import is_ahead, quarrels, shows_agrees
from wheneverclear.rule import chosen, night

README = os.path.join(os.path.dirname(os.path.dirname(os.path.abspath(__file__))), "README.md")

BOOKS = r"""
>>> from wheneverclear.books import Book, hours_of, later, up, with_kind, without, worth
>>> book = Book('book 6 2\nkind moon 3 0-2 5\nkind comet 5/2 1-3\nkind dim 1 4')
>>> [book.hours, book.telescopes, book.names, len(book), worth(book, 'comet'), hours_of(book, 'moon')]
[6, 2, ('moon', 'comet', 'dim'), 3, (5, 2), (0, 1, 2, 5)]
>>> [up(book, 1), up(book, 4), later(book, 'moon', 1), later(book, 'comet', 0), later(book, 'dim', 5)]
[('comet', 'moon'), ('dim',), (2, 5), (1, 2, 3), ()]
>>> more = with_kind(book, 'ember', (2, 3), (0, 2, 3, 4))
>>> [more.text.split('\n')[-1], without(more, 'moon').names, without(more, 'ember') == book]
['kind ember 2/3 0 2-4', ('comet', 'dim', 'ember'), True]
"""

NIGHTS = r"""
>>> from wheneverclear.books import Book
>>> from wheneverclear.nights import cut, fits, is_lesser, open_at, worth_of
>>> book = Book('book 3 2\nkind mars 5 0-1\nkind vega 3/2 0-2')
>>> wishes = (('vega', 0), ('mars', 0), ('mars', 1), ('vega', 1))
>>> [fits(book, (1, 1, 2), wishes, looks) for looks in (((0, 1), (1, 2), (2, 0), (2, 3)), ((0, 2),), ((0, 0), (0, 1)), ((0, 1), (2, 1)))]
[('fits',), ('wrong', 0), ('wrong', 1), ('wrong', 1)]
>>> [worth_of(book, wishes, ((0, 1), (1, 2), (2, 0))), worth_of(book, wishes, ()), worth_of(book, wishes, ((0, 1), (1, 1)))]
[(23, 2), (0, 1), (5, 1)]
>>> [open_at(book, wishes, ((0, 1),), 0), open_at(book, wishes, ((0, 1),), 1), open_at(book, wishes, ((0, 1), (1, 2)), 2)]
[(0, 1), (0, 2, 3), (0, 3)]
>>> [is_lesser(book, (0, 1, 2), (1, 1, 2)), is_lesser(book, (0, 2, 0), (1, 1, 2)), cut(book, (1, 1, 2), 1)]
[True, False, (1, 0, 0)]
"""

QUARRELS = r"""
>>> from wheneverclear.books import Book
>>> from wheneverclear.quarrels import agrees, is_ahead, quarrels, shows_agrees
>>> calm = Book('book 6 2\nkind comet 3 0-2\nkind moon 2 1-5\nkind star 1 0-5')
>>> [is_ahead(calm, 'comet', 'star', 0), is_ahead(calm, 'star', 'comet', 0), is_ahead(calm, 'moon', 'star', 5), quarrels(calm)]
[True, False, True, ()]
>>> agrees(calm)
('agrees', (('comet', 'star'), ('comet', 'moon', 'star'), ('comet', 'moon', 'star'), ('moon', 'star'), ('moon', 'star'), ('moon', 'star')))
>>> odd = Book('book 4 1\nkind gem 1 0-1\nkind sun 2 0 3')
>>> [quarrels(odd), agrees(odd)[0], is_ahead(odd, 'sun', 'gem', 0)]
[(('gem', 'sun', 0),), 'quarrels', False]
>>> [shows_agrees(odd, ('quarrels', 'gem', 'sun', 0, after_gem, (0, 0, 1))) for after_gem in ((0, 0, 0), (1, 0, 0), (0, 0, 1))]
[True, True, False]
>>> [shows_agrees(odd, ('quarrels', 'sun', 'gem', 0, (0, 0, 1), (0, 0, 0))), shows_agrees(odd, ('agrees', ()))]
[True, False]
>>> even = Book('book 2 1\nkind one 2 0-1\nkind two 2 0-1')
>>> [shows_agrees(even, ('agrees', rows)) for rows in ((('one', 'two'), ('two', 'one')), (('one', 'two'), ('two',)))]
[True, False]
"""

RULE = r"""
>>> from wheneverclear.books import Book
>>> from wheneverclear.rule import chosen, night, worth_had
>>> book = Book('book 4 1\nkind far 3 0-2\nkind low 3 0-1\nkind dim 1/2 0-3')
>>> [chosen(book, 0, ('dim', 'far', 'low', 'low'), 1), chosen(book, 1, ('dim', 'far', 'low', 'low'), 1), chosen(book, 2, ('dim', 'far'), 0)]
[(2,), (2,), ()]
>>> wishes = (('dim', 0), ('far', 0), ('low', 0), ('far', 2))
>>> [night(book, (1, 1, 1, 1), wishes), worth_had(book, (1, 1, 1, 1), wishes)]
[((0, 2), (1, 1), (2, 3), (3, 0)), (19, 2)]
>>> [night(book, (1, 0, 1, 0), wishes), worth_had(book, (1, 0, 1, 0), wishes)]
[((0, 2), (2, 1)), (6, 1)]
>>> wide = Book('book 2 3\nkind a 1 0-1\nkind b 5 1')
>>> [chosen(wide, 1, ('a', 'b', 'a', 'b'), 3), night(wide, (2, 3), (('a', 0), ('b', 0), ('b', 1), ('a', 1), ('a', 1)))]
[(0, 1, 3), ((0, 0), (1, 1), (1, 2), (1, 3))]
"""

BEST = r"""
>>> from wheneverclear.best import best, best_worth, counts, shows_best
>>> from wheneverclear.books import Book
>>> book = Book('book 4 1\nkind a 3 0-1\nkind b 2 1-3\nkind c 1 0-2')
>>> weather, wishes = (1, 0, 1, 1), (('a', 0), ('b', 0), ('c', 0), ('b', 2))
>>> [best_worth(book, weather, wishes), counts(book, weather, wishes), best(book, weather, wishes)[0]]
[(7, 1), (((3, 1), 1), ((2, 1), 3), ((1, 1), 3)), (7, 1)]
>>> paper = (((3, 1), ()), ((2, 1), ()), ((1, 1), (0, 1, 2, 3)))
>>> [shows_best(book, weather, wishes, ((7, 1), looks, paper)) for looks in (((0, 0), (2, 1), (3, 3)), ((0, 0), (2, 3), (3, 1)), ((0, 0), (2, 2), (3, 1)))]
[True, True, False]
>>> [shows_best(book, weather, wishes, ((7, 1), ((0, 0), (2, 1), (3, 3)), paper[:-1] + (((1, 1), hours),))) for hours in ((0, 2, 3), (0, 1, 2), (1, 0, 2, 3))]
[False, False, False]
>>> [best_worth(book, (0, 0, 0, 0), wishes), best(book, weather, ()), counts(book, (1, 1, 1, 1), wishes)]
[(0, 1), ((0, 1), (), ()), (((3, 1), 1), ((2, 1), 3), ((1, 1), 4))]
"""

CHOOSERS = r"""
>>> from wheneverclear.books import Book
>>> from wheneverclear.choosers import beaten, Chooser, led, shows_beaten
>>> book = Book('book 3 1\nkind a 3 0-1\nkind b 2 0-2')
>>> fine = Chooser(book, 'chooser\nhour 0 a b\nhour 1 a b\nhour 2 b')
>>> [fine.rows, beaten(fine), led(fine, (1, 0, 1), (('b', 0), ('a', 0), ('a', 1)))]
[(('a', 'b'), ('a', 'b'), ('b',)), ('never',), ((0, 1), (2, 0))]
>>> other = Chooser(book, 'chooser\nhour 0 b a\nhour 1 a b\nhour 2 b')
>>> [beaten(other)[0], led(other, (1, 0, 1), (('b', 0), ('a', 0)))]
['beaten', ((0, 0),)]
>>> [shows_beaten(other, ('beaten', weather, (('b', 0), ('a', 0)))) for weather in ((1, 0, 1), (1, 0, 0), (1, 1, 1), (0, 1, 1))]
[True, True, False, False]
>>> [shows_beaten(fine, ('never',)), shows_beaten(other, ('never',)), shows_beaten(fine, ('beaten', (1, 0, 1), (('b', 0), ('a', 0))))]
[True, False, False]
"""

ENOUGH = r"""
>>> from wheneverclear.books import Book
>>> from wheneverclear.enough import doable, enough, shows_why_enough, shows_worst, surely, why_enough, worst
>>> book = Book('book 6 1\nkind moon 3 0-2\nkind comet 2 1-4\nkind star 1 0-5')
>>> three = (('moon', 0), ('comet', 0), ('star', 0))
>>> [enough(book, three, 0), why_enough(book, three, 0), enough(book, three + (('moon', 0),), 0), enough(book, (('moon', 0),) * 4, 0)]
[4, ('lot', ('moon',)), 5, None]
>>> [surely(book, three, 0, clear) for clear in range(7)]
[0, 1, 2, 2, 3, 3, 3]
>>> [doable(book, three, 0, (3, 4, 5)), shows_worst(book, three, 0, 3, (3, 4, 5)), shows_worst(book, three, 0, 3, (2, 3, 4)), len(worst(book, three, 0, 2))]
[2, True, False, 2]
>>> [enough(book, three, 3), why_enough(book, three, 3), enough(book, (('star', 4),), 3), why_enough(book, (('star', 4),), 3)]
[None, ('lot', ('moon',)), 0, ('nothing',)]
>>> [shows_why_enough(book, three, 0, ('lot', ('comet',))), shows_why_enough(book, (('moon', 0),) * 4, 0, ('lot', ('comet', 'moon')))]
[False, False]
"""

GAMES = r"""
>>> from wheneverclear.books import Book
>>> from wheneverclear.games import loss, lost_by, plan_of, shows_plan, shows_storm, storm_of
>>> calm = Book('book 2 1\nkind a 3 0\nkind b 2 0-1')
>>> [loss(calm, ('a', 'b')), loss(calm, ('b', 'b', 'a')), loss(calm, ())]
[(0, 1), (0, 1), (0, 1)]
>>> torn = Book('book 2 1\nkind a 2 0\nkind b 3 0-1')
>>> [loss(torn, ('a', 'b')), loss(torn, ('b',)), loss(torn, ('a', 'a', 'b'))]
[(1, 1), (0, 1), (1, 1)]
>>> first = (0, (1, (), ()), (1, (), ()))
>>> [lost_by(torn, ('a', 'b'), first), shows_plan(torn, ('a', 'b'), first), lost_by(torn, ('a', 'b'), (1, (None, (), ()), (1, (), ()))), lost_by(torn, ('a', 'b'), (None, (1, (), ()), (1, (), ())))]
[(1, 1), True, (2, 1), (3, 1)]
>>> after = (0, ())
>>> storm = (1, ((None, after), (0, after), (1, (1, ((None, ()),)))))
>>> [shows_storm(torn, ('a', 'b'), storm), shows_storm(torn, ('a', 'b'), (0, (0, ()))), shows_plan(calm, ('a',), (None, (), ()))]
[True, False, False]
>>> [shows_plan(torn, ('a', 'b'), plan_of(torn, ('a', 'b'))), shows_storm(torn, ('a', 'b'), storm_of(torn, ('a', 'b')))]
[True, True]
"""

PARTS = r"""
>>> from wheneverclear.books import Book
>>> from wheneverclear.parts import alike, bars, fewest_left, heals, is_part, parts, shows_fewest_left
>>> book = Book('book 6 1\nkind dawn 1 3-5\nkind gem 2 0-3\nkind moon 1 0-5\nkind rift 3 0-1 5')
>>> parts(book)
(('dawn', 'gem', 'moon'), ('dawn', 'moon', 'rift'))
>>> [fewest_left(book) in (('gem',), ('rift',)), shows_fewest_left(book, ('gem',)), shows_fewest_left(book, ('dawn', 'gem'))]
[True, True, False]
>>> [is_part(book, ('gem', 'rift')), is_part(book, ()), bars(book, 'gem', 'rift'), bars(book, 'dawn', 'gem'), bars(book, 'dawn', 'rift')]
[False, True, ('hours', 0), ('never',), ('never',)]
>>> [heals(book, kind) for kind in ('dawn', 'gem', 'moon', 'rift')]
[('span', None, (2, 1)), ('none',), ('span', None, (2, 1)), ('none',)]
>>> [alike(book, 'dawn', 'moon'), heals(Book('book 2 1\nkind one 2 0-1\nkind two 2 0-1'), 'one')]
[False, ('span', None, None)]
>>> steep = Book('book 2 1\nkind gem 1 0\nkind sun 2 0-1')
>>> [bars(steep, 'gem', 'sun'), heals(steep, 'gem'), heals(steep, 'sun'), parts(steep)]
[('worth', 0), ('span', (2, 1), None), ('span', None, (1, 1)), (('gem',), ('sun',))]
"""

OBSERVATORY = r"""
>>> from wheneverclear.books import Book
>>> from wheneverclear.observatory import Night
>>> night = Night(Book('book 3 1\nkind mars 5 0-1\nkind vega 3/2 0-2'))
>>> [night.wish('vega'), night.wish('mars'), night.now, night.at_least((0, 1, 1)), night.hour(1), night.now]
[0, 1, 0, (13, 2), (1,), 1]
>>> [night.wish('mars'), night.at_least((0, 1)), night.hour(1), night.looks, night.worth, night.lost()]
[2, (13, 2), (2,), ((0, 1), (1, 2)), (10, 1), (0, 1)]
>>> [night.undo(), night.now, night.looks, night.hour(0), night.at_least((1,)), night.at_least((0,)), night.lost()]
[None, 1, ((0, 1),), (), (13, 2), (5, 1), (0, 1)]
>>> far = Night(Book('book 3 1\nkind mars 5 0 2\nkind vega 3/2 0-1'))
>>> [far.wish('mars'), far.wish('vega'), far.hour(1), far.hour(0), far.hour(1), far.worth, far.lost()]
[0, 1, (0,), (), (), (5, 1), (3, 2)]
"""

BENCH = r"""
>>> from wheneverclear.bench import Bench
>>> from wheneverclear.desk import Desk
>>> from wheneverclear.journals import journal, read_journal
>>> bench = Bench('book 4 1\nkind a 2 0-1\nkind b 1 0-2')
>>> [bench.verdict, bench.price('b', (3, 1)), bench.verdict, bench.add('c', (1, 2), (1, 3)), bench.done, bench.book.names]
['agrees', None, 'quarrels', None, 2, ('a', 'b', 'c')]
>>> [bench.undo(), bench.undo(), bench.verdict, bench.redo(), bench.verdict, bench.tried(lambda held: [held.cut('a'), held.verdict]), bench.verdict]
[None, None, 'agrees', None, 'quarrels', [None, 'agrees'], 'quarrels']
>>> journal(bench).split('\n')
['bench', 'book 4 1', 'kind a 2 0-1', 'kind b 1 0-2', 'price b 3']
>>> desk = Desk('bench\nbook 4 1\nkind a 2 0-1\nkind b 1 0-2\nadd c 1/2 1 3')
>>> [desk.say(line) for line in ('book', 'verdict', 'up 1', 'up 3', 'night 1 1 1 0 ; b 0 a 0', 'night 0 1 0 1 ; b 0 a 0 c 1', 'night 0 0 0 0 ;')]
['book 4 1; kind a 2 0-1; kind b 1 0-2; kind c 1/2 1 3', 'quarrels', 'a b c', 'c', '3', '5/2', '0']
>>> [desk.say(line) for line in ('cut c', 'verdict', 'cut b', 'undo', 'undo', 'verdict', 'price c 1/9')]
['ok', 'agrees', 'ok', 'ok', 'ok', 'quarrels', 'ok']
>>> [read_journal(journal(bench)) == bench, bench.copy() == bench]
[True, True]
"""


def failures(text):
    """What a run of the examples in a text says of those that fail."""
    said = []
    test = doctest.DocTestParser().get_doctest(text, {}, "examples", None, 0)
    assert test.examples
    doctest.DocTestRunner(verbose=False).run(test, out=said.append)
    return "".join(said)


class RowsTest(unittest.TestCase):
    def test_books(self):
        self.assertEqual(failures(BOOKS), "")

    def test_nights(self):
        self.assertEqual(failures(NIGHTS), "")

    def test_quarrels(self):
        self.assertEqual(failures(QUARRELS), "")

    def test_rule(self):
        self.assertEqual(failures(RULE), "")

    def test_best(self):
        self.assertEqual(failures(BEST), "")

    def test_choosers(self):
        self.assertEqual(failures(CHOOSERS), "")

    def test_enough(self):
        self.assertEqual(failures(ENOUGH), "")

    def test_games(self):
        self.assertEqual(failures(GAMES), "")

    def test_parts(self):
        self.assertEqual(failures(PARTS), "")

    def test_observatory(self):
        self.assertEqual(failures(OBSERVATORY), "")

    def test_bench(self):
        self.assertEqual(failures(BENCH), "")

    def test_readme(self):
        with open(README, encoding="utf-8") as file:
            self.assertEqual(failures(file.read()), "")

    def test_a_wrong_row_is_seen(self):
        self.assertNotEqual(failures(BOOKS.replace("(5, 2)", "(5, 3)")), "")


class BelowTheRowsTest(unittest.TestCase):
    def test_lines_of_kinds_that_cannot_stand(self):
        for line in ("kind a 1 0-2 3", "kind a 1 4-4", "kind a 1 6", "kind a 1 3 1"):
            self.assertEqual(raised(Book, "book 6 2\n" + line), (BadBook, 2), line)

    def test_a_kind_lacks(self):
        self.assertEqual(raised(Book, "book 6 2"), (BadBook, 2))

    def test_there_stands_ahead_of_bad_hours(self):
        book = Book("book 6 2\nkind moon 3 0-2 5\nkind comet 5/2 1-3\nkind dim 1 4")
        self.assertEqual(raised(with_kind, book, "dim", (0, 1), ()), (There, "dim"))

    def test_why_looks_do_not_fit(self):
        book = Book("book 3 2\nkind mars 5 0-1\nkind vega 3/2 0-2")
        wishes = (("vega", 0), ("mars", 0), ("mars", 1), ("vega", 1))
        self.assertNotIn(2, open_at(book, wishes, (), 0))
        self.assertIn(2, open_at(book, wishes, (), 1))
        self.assertEqual(fits(book, (2, 1, 2), wishes, ((0, 0), (0, 1))), ("fits",))
        self.assertEqual(hours_of(book, "mars"), (0, 1))
        self.assertEqual(later(book, "mars", 1), ())
        self.assertNotIn(1, open_at(book, wishes, ((0, 1),), 2))

    def test_which_after_weather_is_of_which_kind(self):
        odd = Book("book 4 1\nkind gem 1 0-1\nkind sun 2 0 3")
        wishes = (("gem", 0), ("sun", 0))
        self.assertEqual([later(odd, "gem", 0), later(odd, "sun", 0)], [(1,), (3,)])
        # What gem looked at first has, and what sun does, with these hours clear behind that.
        for after, gem_first, sun_first in (((0, 0, 0), 1, 2), ((1, 0, 0), 1, 3), ((0, 0, 1), 3, 2)):
            rest = (0,) + after
            self.assertEqual(best_worth(odd, rest, wishes[1:]), (gem_first - 1, 1))
            self.assertEqual(best_worth(odd, rest, wishes[:1]), (sun_first - 2, 1))
            told = [shows_agrees(odd, ("quarrels", "gem", "sun", 0, one, other))
                    for one, other in ((after, (0, 0, 1)), ((0, 0, 0), after))]
            self.assertEqual(told, [gem_first < sun_first, sun_first < gem_first])

    def test_not_up(self):
        calm = Book("book 6 2\nkind comet 3 0-2\nkind moon 2 1-5\nkind star 1 0-5")
        self.assertEqual(raised(is_ahead, calm, "comet", "star", 3), (NotUp, "comet"))

    def test_why_the_rule_goes_so(self):
        book = Book("book 4 1\nkind far 3 0-2\nkind low 3 0-1\nkind dim 1/2 0-3")
        self.assertEqual(worth(book, "far"), worth(book, "low"))
        self.assertEqual([len(later(book, kind, 0)) for kind in ("low", "far")], [1, 2])
        self.assertEqual([len(later(book, kind, 1)) for kind in ("low", "far")], [0, 1])
        wishes = (("dim", 0), ("far", 0), ("low", 0), ("far", 2))
        self.assertEqual(open_at(book, wishes, ((0, 2),), 2), (0, 1, 3))
        self.assertEqual(chosen(book, 2, ("dim", "far", "far"), 1), (1,))
        wide = Book("book 2 3\nkind a 1 0-1\nkind b 5 1")
        self.assertEqual(up(wide, 0), ("a",))
        looks = night(wide, (2, 3), (("a", 0), ("b", 0), ("b", 1), ("a", 1), ("a", 1)))
        self.assertEqual([hour for hour, _ in looks].count(0), 1)

    def test_why_papers_are_right_or_wrong(self):
        book = Book("book 4 1\nkind a 3 0-1\nkind b 2 1-3\nkind c 1 0-2")
        weather, wishes = (1, 0, 1, 1), (("a", 0), ("b", 0), ("c", 0), ("b", 2))
        self.assertEqual(counts(book, weather, wishes)[-1], ((1, 1), 3))
        looks, paper = ((0, 0), (2, 1), (3, 3)), (((3, 1), ()), ((2, 1), ()))
        for hours, bound in (((0, 2, 3), 6), ((0, 1, 2), 4), ((0, 1, 2, 3), 3)):
            beside = [
                wish for wish in wishes
                if [hour for hour in hours_of(book, wish[0]) if hour >= wish[1] and hour not in hours]
            ]
            self.assertEqual(sum(weather[hour] for hour in hours) + len(beside), bound)
            told = shows_best(book, weather, wishes, ((7, 1), looks, paper + (((1, 1), hours),)))
            self.assertIs(told, bound == 3)

    def test_what_choosers_lose(self):
        book = Book("book 3 1\nkind a 3 0-1\nkind b 2 0-2")
        other = Chooser(book, "chooser\nhour 0 b a\nhour 1 a b\nhour 2 b")
        self.assertIs(is_ahead(book, "a", "b", 0), True)
        wishes = (("b", 0), ("a", 0))
        for weather, had, could in (((1, 0, 1), 2, 5), ((1, 1, 1), 5, 5), ((0, 1, 1), 5, 5)):
            self.assertEqual(worth_of(book, wishes, led(other, weather, wishes)), (had, 1))
            self.assertEqual(best_worth(book, weather, wishes), (could, 1))
            self.assertIs(shows_beaten(other, ("beaten", weather, wishes)), had < could)

    def test_texts_of_choosers_that_cannot_stand(self):
        book = Book("book 3 1\nkind a 3 0-1\nkind b 2 0-2")
        self.assertEqual(raised(Chooser, book, "chooser\nhour 0 a"), (BadChooser, 2))
        self.assertEqual(raised(Chooser, book, "chooser\nhour 0 a b"), (BadChooser, 3))

    def test_which_hours_are_none_of_moons(self):
        book = Book("book 6 1\nkind moon 3 0-2\nkind comet 2 1-4\nkind star 1 0-5")
        moon, three = (("moon", 0),), (("moon", 0), ("comet", 0), ("star", 0))
        self.assertEqual([doable(book, moon, 0, hours) for hours in ((3, 4, 5), (0, 3, 4, 5))], [0, 1])
        self.assertEqual(enough(book, moon, 0), 4)
        # The lot of comet and moon has the five hours from 0 to 4, moon alone has three.
        self.assertEqual([doable(book, (kind,) * 6, 0, tuple(range(6))) for kind in three], [3, 4, 6])
        self.assertEqual(doable(book, three[:2] * 3, 0, tuple(range(6))), 5)
        told = [shows_why_enough(book, moon * 4, 0, ("lot", lot)) for lot in (("comet", "moon"), ("moon",))]
        self.assertEqual(told, [False, True])
        self.assertEqual(doable(book, three, 3, (3, 4, 5)), 2)
        self.assertEqual([surely(book, (("star", 4),), hour, 1) for hour in (3, 4)], [0, 1])

    def test_what_must_be_lost_and_why(self):
        torn = Book("book 2 1\nkind a 2 0\nkind b 3 0-1")
        wishes = (("a", 0), ("b", 0))
        for weather, could, by_a, by_b in (((1, 0), 3, 2, 3), ((1, 1), 5, 5, 3)):
            self.assertEqual(best_worth(torn, weather, wishes), (could, 1))
            self.assertEqual(worth_of(torn, wishes, ((0, 0), (1, 1))[:sum(weather)]), (by_a, 1))
            self.assertEqual(worth_of(torn, wishes, ((0, 1),)), (by_b, 1))
        self.assertEqual(loss(torn, ("a", "b")), (1, 1))
        calm = Book("book 2 1\nkind a 3 0\nkind b 2 0-1")
        self.assertIs(is_ahead(calm, "a", "b", 0), True)
        self.assertEqual(plan_of(calm, ("a", "b"))[0], 0)

    def test_a_third_wish_covers_two_up_that_quarrel(self):
        book = Book("book 2 1\nkind a 3 0-1\nkind b 2 0\nkind c 5 0")
        self.assertGreater(loss(book, ("a", "b")), (0, 1))
        self.assertEqual(loss(book, ("a", "b", "c")), (0, 1))
        self.assertEqual(plan_of(book, ("a", "b", "c"))[0], 2)
        self.assertEqual([is_ahead(book, "c", kind, 0) for kind in "ab"], [True, True])

    def test_which_hours_and_worths_bar(self):
        book = Book("book 6 1\nkind dawn 1 3-5\nkind gem 2 0-3\nkind moon 1 0-5\nkind rift 3 0-1 5")
        self.assertEqual([later(book, "gem", 0), later(book, "rift", 0)], [(1, 2, 3), (1, 5)])
        self.assertEqual(bars(book, "gem", "rift"), ("hours", 0))
        self.assertEqual([later(book, "gem", 3), later(book, "dawn", 3)], [(), (4, 5)])
        for amount, told in (((2, 1), ("never",)), ((201, 100), ("worth", 3))):
            self.assertEqual(bars(with_worth(book, "dawn", amount), "dawn", "gem"), told)
        steep = Book("book 2 1\nkind gem 1 0\nkind sun 2 0-1")
        self.assertEqual([later(steep, "gem", 0), later(steep, "sun", 0)], [(), (1,)])

    def test_why_nights_go_so(self):
        book = Book("book 3 1\nkind mars 5 0-1\nkind vega 3/2 0-2")
        self.assertIs(is_ahead(book, "mars", "vega", 0), True)
        far = Book("book 3 1\nkind mars 5 0 2\nkind vega 3/2 0-1")
        self.assertEqual([later(far, "mars", 0), later(far, "vega", 0)], [(2,), (1,)])
        self.assertEqual(quarrels(far), (("mars", "vega", 0),))
        self.assertEqual(best_worth(far, (1, 0, 1), (("mars", 0), ("vega", 0))), (13, 2))
        led = Night(far)
        self.assertEqual([led.wish("mars"), led.wish("vega"), led.hour(1)], [0, 1, (0,)])

    def test_why_the_bench_quarrels(self):
        bench = Bench("book 4 1\nkind a 2 0-1\nkind b 1 0-2")
        self.assertEqual([is_ahead(bench.book, "a", "b", hour) for hour in (0, 1)], [True, True])
        bench.price("b", (3, 1))
        self.assertEqual([later(bench.book, kind, 0) for kind in "ab"], [(1,), (1, 2)])
        self.assertIn(("a", "b", 0), quarrels(bench.book))
        desk = Desk("bench\nbook 4 1\nkind a 2 0-1\nkind b 1 0-2\nadd c 1/2 1 3")
        self.assertEqual(quarrels(desk.bench.book), (("b", "c", 1),))
        self.assertEqual(night(desk.bench.book, (1, 1, 1, 0), (("b", 0), ("a", 0))), ((0, 1), (1, 0)))
        self.assertEqual(night(desk.bench.book, (0, 1, 0, 1), (("b", 0), ("a", 0), ("c", 1))), ((1, 1), (3, 2)))


if __name__ == "__main__":
    unittest.main()
