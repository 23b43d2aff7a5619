"""The best of a whole night: its worth, its looks, its paper, and counts (section 8)."""

import itertools
import unittest
from fractions import Fraction

from tests.oracles import all_ways, amount, had, kinds_of, lows, most_done, most_worth, own_hours, pair, right_best
from tests.samples import FULL, ONE, THREE, Line, Row, Whole, book_of, chances, is_plain, odd_values, raised, same
from tests.samples import some_book, some_hours, some_night, some_weather, some_wishes, spoiled
from wheneverclear.best import best, best_worth, counts, shows_best
from wheneverclear.books import Book
from wheneverclear.errors import BadWeather, BadWishes
from wheneverclear.nights import fits, worth_of

BOOK = Book("book 4 1\nkind a 3 0-1\nkind b 2 1-3\nkind c 1 0-2")
WEATHER = (1, 0, 1, 1)
WISHES = (("a", 0), ("b", 0), ("c", 0), ("b", 2))
LOOKS = ((0, 0), (2, 1), (3, 3))
PAPER = (((3, 1), ()), ((2, 1), ()), ((1, 1), (0, 1, 2, 3)))


def small_night(chance, hours=4, most=5):
    """(book, its kinds, a weather, wishes) whose ways can all be tried."""
    book, kinds = some_book(chance, hours, 4)
    return book, kinds, some_weather(chance, book), some_wishes(chance, book, most)


def wide_book(chance):
    """A book of 24 hours, 4 telescopes and 8 kinds."""
    kinds = {}
    for name in "abcdefgh":
        own = some_hours(chance, 24)
        if chance.random() < 0.7:
            own = tuple(sorted(chance.sample(range(24), chance.randint(1, 6))))
        kinds[name] = pair(Fraction(chance.randint(1, 1000), chance.randint(1, 1000))), own
    return book_of(24, 4, kinds), kinds


def lots_of_hours(hours):
    return [lot for many in range(hours + 1) for lot in itertools.combinations(range(hours), many)]


class WorthTest(unittest.TestCase):
    def test_moves_are_made_for_who_comes_behind(self):
        book = Book("book 3 1\nkind a 3 0-2\nkind b 2 0-1\nkind c 1 0")
        wishes = (("a", 0), ("b", 0), ("c", 0))
        self.assertEqual(best(book, (1, 1, 1), wishes)[:2], ((6, 1), ((0, 2), (1, 1), (2, 0))))
        self.assertEqual(best(book, (1, 1, 0), wishes)[:1], ((5, 1),))
        self.assertEqual(counts(book, (1, 1, 0), wishes), (((3, 1), 1), ((2, 1), 2), ((1, 1), 2)))

    def test_the_greater_worth_is_not_given_up_for_one_alone(self):
        book = Book("book 1 1\nkind a 3 0\nkind b 2 0")
        self.assertEqual(best(book, (1,), (("b", 0), ("b", 0), ("a", 0)))[:2], ((3, 1), ((0, 2),)))

    def test_worths_are_summed_exactly(self):
        book = Book("book 1 4\nkind a 1/6 0\nkind b 1/3 0\nkind c 999/1000 0\nkind d 1000/999 0")
        wishes = (("a", 0), ("b", 0), ("c", 0), ("d", 0), ("d", 0))
        total = Fraction(1, 3) + Fraction(999, 1000) + 2 * Fraction(1000, 999)
        self.assertTrue(same(best_worth(book, (4,), wishes), pair(total)))

    def test_wishes_that_come_late(self):
        book = Book("book 3 2\nkind a 1 0-1\nkind b 2 1")
        self.assertEqual(best(book, (2, 2, 2), (("a", 2), ("b", 2))), ((0, 1), (), (((2, 1), ()), ((1, 1), ()))))
        self.assertEqual(best(book, (2, 2, 2), (("a", 2), ("a", 1), ("b", 1)))[:2], ((3, 1), ((1, 1), (1, 2))))
        self.assertEqual(counts(book, (2, 1, 2), (("a", 1), ("b", 1))), (((2, 1), 1), ((1, 1), 1)))

    def test_no_wishes_and_clouds_alone(self):
        self.assertEqual(best(BOOK, WEATHER, ()), ((0, 1), (), ()))
        self.assertEqual([best_worth(BOOK, WEATHER, ()), counts(BOOK, WEATHER, ())], [(0, 1), ()])
        told = best(BOOK, (0, 0, 0, 0), WISHES)
        self.assertEqual(told[:2], ((0, 1), ()))
        self.assertTrue(shows_best(BOOK, (0, 0, 0, 0), WISHES, told))
        self.assertEqual(counts(BOOK, (0, 0, 0, 0), WISHES), (((3, 1), 0), ((2, 1), 0), ((1, 1), 0)))

    def test_kinds_of_equal_worth_are_one_line(self):
        book = Book("book 2 1\nkind a 2 0\nkind b 2 1\nkind c 1/2 0-1\nkind d 5 0")
        wishes = (("c", 0), ("a", 0), ("b", 0))
        told = best(book, (1, 1), wishes)
        self.assertEqual([line[0] for line in told[2]], [(2, 1), (1, 2)])
        self.assertEqual(counts(book, (1, 1), wishes), (((2, 1), 2), ((1, 2), 2)))

    def test_all_small_nights(self):
        book = Book("book 2 2\nkind a 2 0-1\nkind b 2 1\nkind c 3 0")
        kinds = kinds_of(book)
        for many in range(4):
            for wishes in itertools.product(itertools.product("abc", range(2)), repeat=many):
                for weather in itertools.product(range(3), repeat=2):
                    self.right(book, kinds, weather, wishes)

    def right(self, book, kinds, weather, wishes):
        """What all functions tell of a night, beside a trial of all lots of wishes."""
        ways = all_ways(kinds, weather, wishes)
        told = best(book, weather, wishes)
        self.assertTrue(is_plain(told) and right_best(kinds, weather, wishes, ways, told), told)
        self.assertIs(shows_best(book, weather, wishes, told), True)
        self.assertTrue(same(best_worth(book, weather, wishes), told[0]))
        numbers = tuple((pair(low), most_done(kinds, weather, wishes, low)) for low in lows(kinds, wishes))
        self.assertTrue(same(counts(book, weather, wishes), numbers))

    def test_many_small_nights(self):
        for chance in chances(300):
            book, kinds, weather, wishes = small_night(chance)
            self.right(book, kinds, weather, wishes)
            self.assertEqual(best_worth(book, weather, wishes), pair(most_worth(kinds, weather, wishes)))

    def test_greater_nights_beside_a_trial(self):
        for chance in chances(100):
            book, kinds, weather, wishes = small_night(chance, 6, 10)
            self.assertEqual(best_worth(book, weather, wishes), pair(most_worth(kinds, weather, wishes)))
            told = tuple((pair(low), most_done(kinds, weather, wishes, low)) for low in lows(kinds, wishes))
            self.assertEqual(counts(book, weather, wishes), told)

    def test_the_greatest_nights(self):
        for chance in chances(150):
            book, kinds = wide_book(chance)
            weather = tuple(chance.choice((0, 0, 0, 1, 4, 2)) for _ in range(24))
            latest = chance.choice((0, 5, 23))
            wishes = tuple((chance.choice(book.names), chance.randint(0, latest)) for _ in range(24))
            told = best(book, weather, wishes)
            self.assertTrue(self.is_proven(kinds, weather, wishes, told))
            self.assertIs(shows_best(book, weather, wishes, told), True)
            self.assertEqual(best_worth(book, weather, wishes), told[0])
            self.assertEqual(fits(book, weather, wishes, told[1]), ("fits",))

    def is_proven(self, kinds, weather, wishes, told):
        """Whether looks have told's worth, and its paper bounds all looks by just this worth."""
        worth, looks, paper = told
        bound, steps = Fraction(0), lows(kinds, wishes)
        for (low, hours), less in zip(paper, steps[1:] + [Fraction(0)]):
            worthy = [wish for wish in wishes if amount(kinds, wish[0]) >= Fraction(*low)]
            most = sum(weather[hour] for hour in hours)
            most += len([wish for wish in worthy if own_hours(kinds, wish) - set(hours)])
            bound += (Fraction(*low) - less) * most
        self.assertEqual([line[0] for line in paper], [pair(low) for low in steps])
        return bound == had(kinds, wishes, looks) == Fraction(*worth)

    def test_many_wishes_in_a_row_must_move(self):
        lines = ["book 24 1"] + [f"kind {name} {9 - place} 0-23" for place, name in enumerate("abcdefgh")]
        book = Book("\n".join(lines))
        wishes = tuple((name, 0) for name in "abcdefgh" * 3)
        self.assertEqual(best_worth(book, (1,) * 24, wishes), (3 * 44, 1))
        chain = Book("book 8 1\n" + "\n".join(
            f"kind {name} {9 - place} {7 - place - (place < 7)}{'-' + str(7 - place) if place < 7 else ''}"
            for place, name in enumerate("abcdefgh")
        ))
        wishes = tuple((name, 0) for name in "abcdefgh")
        told = best(chain, (1,) * 8, wishes)
        self.assertEqual(told[0], (9 + 8 + 7 + 6 + 5 + 4 + 3 + 2, 1))
        self.assertEqual(told[1], tuple((7 - place, place) for place in range(7, -1, -1)))


class ShowsTest(unittest.TestCase):
    def test_all_looks_of_small_nights(self):
        for chance in chances(25):
            book, kinds, weather, wishes = small_night(chance, 3, 3)
            ways = all_ways(kinds, weather, wishes)
            paper = best(book, weather, wishes)[2]
            pairs = [(hour, number) for hour in range(book.hours) for number in range(len(wishes))]
            for many in range(4):
                for looks in itertools.combinations(pairs, many):
                    worth = worth_of(book, wishes, looks)
                    value = worth, looks, paper
                    told = right_best(kinds, weather, wishes, ways, value)
                    self.assertIs(shows_best(book, weather, wishes, value), told)

    def test_all_papers_of_small_nights(self):
        seen = 0
        for chance in chances(60):
            book, kinds, weather, wishes = small_night(chance, 3, 4)
            ways = all_ways(kinds, weather, wishes)
            worth, looks, paper = best(book, weather, wishes)
            for lots in itertools.product(lots_of_hours(book.hours), repeat=min(len(paper), 3)):
                lines = tuple((low, lot) for (low, _), lot in zip(paper, lots)) + paper[3:]
                told = right_best(kinds, weather, wishes, ways, (worth, looks, lines))
                self.assertIs(shows_best(book, weather, wishes, (worth, looks, lines)), told)
                seen += told
        self.assertGreater(seen, 50)

    def test_values_near_right_ones(self):
        kinds = kinds_of(BOOK)
        ways = all_ways(kinds, WEATHER, WISHES)
        for value in ((7, 1), LOOKS, PAPER), best(BOOK, WEATHER, WISHES):
            self.assertIs(shows_best(BOOK, WEATHER, WISHES, value), True)
            near = spoiled(value)
            for other in near:
                told = right_best(kinds, WEATHER, WISHES, ways, other)
                self.assertIs(shows_best(BOOK, WEATHER, WISHES, other), told, other)
            self.assertGreater(len(near), 500)

    def test_nothing_near_right(self):
        ways = [()]
        for value in spoiled(((0, 1), (), ())):
            told = right_best(kinds_of(BOOK), WEATHER, (), ways, value)
            self.assertIs(shows_best(BOOK, WEATHER, (), value), told, value)
        for worth in ((0, 1), (0, 2), (False, True), (0, True), (False, 1), 0, (0,), None, "0"):
            self.assertIs(shows_best(BOOK, WEATHER, (), (worth, (), ())), same(worth, (0, 1)))

    def test_worths_of_another_form(self):
        for worth in ((14, 2), (-7, -1), (7, True), 7, [7, 1], (7,), (7, 1, 1), "7", None, (8, 1), (6, 1), ("7", "1")):
            self.assertIs(shows_best(BOOK, WEATHER, WISHES, (worth, LOOKS, PAPER)), False)
        for low in ((2, 2), (True, 1), (1, True), (True, True), 1, None, (1,), "1", [1, 1], (2, 1), (1, 2), (-1, -1)):
            paper = PAPER[:2] + ((low, (0, 1, 2, 3)),)
            self.assertIs(shows_best(BOOK, WEATHER, WISHES, ((7, 1), LOOKS, paper)), False)

    def test_looks_that_do_not_fit_or_have_less(self):
        for looks in (((0, 0),), ((0, 0), (2, 1)), ((0, 0), (1, 1), (3, 3)), ((0, 0), (3, 3), (2, 1)), (), [],
                      list(LOOKS), ((0, 0), (2, 1), (3, 1)), ((0, 0), (2, 1), (3, 3), (3, 3)), ([0, 0], (2, 1), (3, 3)),
                      ((False, 0), (2, 1), (3, 3)), ((0, False), (2, 1), (3, 3)), ((0, 0), (2, 1), (3, 4)), None):
            for worth in ((7, 1), (5, 1), (3, 1), (0, 1)):
                self.assertIs(shows_best(BOOK, WEATHER, WISHES, (worth, looks, PAPER)), False)

    def test_papers_with_a_line_out_twice_or_exchanged(self):
        for paper in (PAPER[:2], PAPER[1:], PAPER + PAPER[2:], PAPER[::-1], (PAPER[0], PAPER[2], PAPER[1]), (), None,
                      list(PAPER), PAPER[:2] + (list(PAPER[2]),), PAPER[:2] + (PAPER[2] + ((),),), PAPER[:2] + ((),),
                      PAPER[:2] + (PAPER[2][1],), PAPER[:2] + (((1, 1), [0, 1, 2, 3]),)):
            self.assertIs(shows_best(BOOK, WEATHER, WISHES, ((7, 1), LOOKS, paper)), False)
        for hours in ((0, 1, 2, 3, 3), (0, 1, 2, 3, 4), (-1, 0, 1, 2, 3), (0, True, 2, 3), (3, 2, 1, 0), (0, 2, 3),
                      None):
            self.assertIs(shows_best(BOOK, WEATHER, WISHES, ((7, 1), LOOKS, PAPER[:2] + (((1, 1), hours),))), False)

    def test_any_value(self):
        right = (7, 1), LOOKS, PAPER
        for value in odd_values() + [right[:2], right + (None,), list(right), (right,), right[::-1]]:
            self.assertIs(shows_best(BOOK, WEATHER, WISHES, value), False, value)
            self.assertIs(shows_best(ONE, (0,), (), value), False, value)
            self.assertIs(shows_best(FULL, (4,) * 24, (("a", 0),) * 24, value), False, value)

    def test_what_was_told_of_one_night_is_not_right_of_another_one(self):
        told = best(BOOK, WEATHER, WISHES)
        self.assertIs(shows_best(BOOK, (1, 1, 1, 1), WISHES, told), False)
        self.assertIs(shows_best(BOOK, WEATHER, WISHES[:3], told), False)
        self.assertIs(shows_best(BOOK, (1, 0, 1, 0), WISHES, told), False)
        self.assertIs(shows_best(BOOK, WEATHER, WISHES + (("c", 3),), told), True)

    def test_great_worths_may_be_handed_in_again(self):
        lines = [f"kind {name} {1000 - place}/{1000 - place - 1} 0-23" for place, name in enumerate("abcdefgh")]
        book = Book("book 24 4\n" + "\n".join(lines))
        wishes = tuple((name, 0) for name in "abcdefgh" * 3)
        worth, looks, paper = best(book, (1,) * 24, wishes)
        self.assertGreater(worth[1], 10**20)
        self.assertIs(shows_best(book, (1,) * 24, wishes, (worth, looks, paper)), True)
        for other in ((worth[0] + 1, worth[1]), (worth[0] * 2, worth[1] * 2), (-worth[0], -worth[1]), worth[::-1]):
            self.assertIs(shows_best(book, (1,) * 24, wishes, (other, looks, paper)), False)


class WrongTest(unittest.TestCase):
    def refused(self, call, error, value):
        told = raised(call)
        self.assertEqual(told and told[0], error, value)
        self.assertIs(told[1], value)

    def calls(self, book, weather, wishes):
        return [lambda: best(book, weather, wishes), lambda: best_worth(book, weather, wishes),
                lambda: counts(book, weather, wishes), lambda: shows_best(book, weather, wishes, None),
                lambda: shows_best(book, weather, wishes, ((0, 1), (), ()))]

    def test_weathers(self):
        for value in odd_values() + spoiled((1, 0, 1)) + [(1, 1, 3), (2, 2, 2, 2), [1, 1, 1], (True, 1, 1)]:
            is_right = type(value) is tuple and len(value) == 3
            if not (is_right and all(type(clear) is int and 0 <= clear <= 2 for clear in value)):
                for call in self.calls(THREE, value, ()):
                    self.refused(call, BadWeather, value)

    def test_wishes(self):
        more = [(("mars", 0),) * 25, (("mars", 3),), (("moon", 0),), [("mars", 0)], (["mars", 0],), (("mars", False),),
                (("mars", -1),), (("mars", 0, 0),), (("mars", 0), None), None, 0, "mars", {}, ("mars", 0), (("mars",),)]
        for value in more:
            for call in self.calls(THREE, (1, 1, 1), value):
                self.refused(call, BadWishes, value)
        for call in self.calls(THREE, (1, 1, 1), (("mars", 0),) * 24):
            self.assertIsNone(raised(call))

    def test_the_sequence_of_the_errors(self):
        for weather, wishes in itertools.product(((1, 1, 1), [1, 1, 1], None), ((), [], None)):
            due = None
            if type(weather) is not tuple:
                due = BadWeather, weather
            elif wishes != ():
                due = BadWishes, wishes
            for call in self.calls(THREE, weather, wishes):
                self.assertEqual(raised(call), due)
            self.assertEqual(raised(best, wishes=wishes, weather=weather, book=THREE), due)
            self.assertEqual(raised(best_worth, wishes=wishes, weather=weather, book=THREE), due)
            self.assertEqual(raised(counts, wishes=wishes, weather=weather, book=THREE), due)
            self.assertEqual(raised(shows_best, value=0, wishes=wishes, weather=weather, book=THREE), due)


class ArgumentsTest(unittest.TestCase):
    def test_by_name(self):
        self.assertEqual(best(wishes=WISHES, weather=WEATHER, book=BOOK), best(BOOK, WEATHER, WISHES))
        self.assertEqual(best_worth(wishes=WISHES, weather=WEATHER, book=BOOK), (7, 1))
        self.assertEqual(counts(wishes=(), weather=WEATHER, book=BOOK), ())
        self.assertIs(shows_best(value=((7, 1), LOOKS, PAPER), wishes=WISHES, weather=WEATHER, book=BOOK), True)

    def test_they_are_not_changed(self):
        before = dict(vars(BOOK))
        value = [[7, 1], [[0, 0]], []]
        self.assertIs(shows_best(BOOK, WEATHER, WISHES, value), False)
        self.assertIs(shows_best(BOOK, WEATHER, WISHES, tuple(value)), False)
        self.assertEqual(value, [[7, 1], [[0, 0]], []])
        best(BOOK, WEATHER, WISHES)
        self.assertEqual(vars(BOOK), before)

    def test_what_is_told_is_plain(self):
        weather = Row(Whole(clear) for clear in WEATHER)
        wishes = Row(Row((Line(kind), Whole(hour))) for kind, hour in WISHES)
        self.assertTrue(same(best(BOOK, weather, wishes), best(BOOK, WEATHER, WISHES)))
        self.assertTrue(same(best_worth(BOOK, weather, wishes), (7, 1)))
        self.assertTrue(is_plain(counts(BOOK, weather, wishes)))

    def test_equal_calls_tell_the_same(self):
        for chance in chances(60):
            book, _, weather, wishes = some_night(chance, 24)
            again = Book(book.text)
            for call in (best, best_worth, counts):
                self.assertTrue(same(call(book, weather, wishes), call(book, weather, wishes)))
                self.assertTrue(same(call(book, weather, wishes), call(again, weather, wishes)))


class ForAllNightsTest(unittest.TestCase):
    """The sentences in bold, and those below the rows."""

    def test_the_greatest_worth_exactly_if_all_bounds_are_met(self):
        for chance in chances(60):
            book, kinds, weather, wishes = small_night(chance)
            worth, told = best_worth(book, weather, wishes), counts(book, weather, wishes)
            for looks in all_ways(kinds, weather, wishes):
                done = [amount(kinds, wishes[number][0]) for _, number in looks]
                are_met = all(len([one for one in done if one >= Fraction(*low)]) == most for low, most in told)
                self.assertEqual(pair(sum(done)) == worth, are_met)

    def test_each_bound_holds_and_one_is_met(self):
        for chance in chances(60):
            book, kinds, weather, wishes = small_night(chance)
            for low, most in counts(book, weather, wishes):
                worthy = [wish for wish in wishes if amount(kinds, wish[0]) >= Fraction(*low)]
                bounds = []
                for lot in lots_of_hours(book.hours):
                    beside = [wish for wish in worthy if own_hours(kinds, wish) - set(lot)]
                    bounds.append(sum(weather[hour] for hour in lot) + len(beside))
                self.assertEqual(min(bounds), most)

    def test_counts_never_fall_and_sum_up_to_the_worth(self):
        for chance in chances(200):
            book, kinds, weather, wishes = some_night(chance, 24)
            told = counts(book, weather, wishes)
            self.assertEqual([low for low, _ in told], [pair(low) for low in lows(kinds, wishes)])
            self.assertEqual([most for _, most in told], sorted(most for _, most in told))
            steps = [Fraction(*low) for low, _ in told] + [Fraction(0)]
            total = sum((low - less) * most for low, less, (_, most) in zip(steps, steps[1:], told))
            self.assertEqual(best_worth(book, weather, wishes), pair(total))

    def test_more_never_makes_it_worth_less(self):
        for chance in chances(200):
            book, _, weather, wishes = some_night(chance, 24)
            worth = Fraction(*best_worth(book, weather, wishes))
            more = tuple(chance.randint(clear, book.telescopes) for clear in weather)
            self.assertGreaterEqual(Fraction(*best_worth(book, more, wishes)), worth)
            if len(wishes) < 24:
                place = chance.randint(0, len(wishes))
                wish = chance.choice(book.names), chance.randrange(book.hours)
                more = wishes[:place] + (wish,) + wishes[place:]
                self.assertGreaterEqual(Fraction(*best_worth(book, weather, more)), worth)


if __name__ == "__main__":
    unittest.main()
