"""Nights: looks that fit, what they are worth, what is open, and weathers (section 5)."""

import itertools
import unittest
from fractions import Fraction

from tests.samples import ONE, THREE, Line, Row, Whole, chances, fitting_looks, is_plain, odd_values, raised, same
from tests.samples import some_looks, some_night, some_weather, spoiled
from wheneverclear.books import Book
from wheneverclear.errors import BadLooks, BadWeather, BadWishes, NoHour
from wheneverclear.nights import cut, fits, is_lesser, open_at, worth_of

WISHES = (("vega", 0), ("mars", 0), ("mars", 1), ("vega", 1))
WEATHER = (1, 1, 2)
LOOKS = ((0, 1), (1, 2), (2, 0), (2, 3))


def is_number(value, below):
    """Whether a value is an integer from 0 on, below a number."""
    return type(value) is int and 0 <= value < below


def is_weather(value, book=THREE):
    """Whether a value is a weather, by the document's words."""
    if type(value) is not tuple or len(value) != book.hours:
        return False
    return all(is_number(clear, book.telescopes + 1) for clear in value)


def is_wish(value, book=THREE):
    """Whether a value is a wish, by the document's words."""
    if type(value) is not tuple or len(value) != 2:
        return False
    return type(value[0]) is str and value[0] in book.names and is_number(value[1], book.hours)


def are_wishes(value, book=THREE):
    """Whether a value is wishes, by the document's words."""
    return type(value) is tuple and len(value) <= 24 and all(is_wish(wish, book) for wish in value)


def are_looks(value, many=len(WISHES), book=THREE):
    """Whether a value is looks, by the document's words."""
    if type(value) is not tuple:
        return False
    for look in value:
        if type(look) is not tuple or len(look) != 2:
            return False
        if not is_number(look[0], book.hours) or not is_number(look[1], many):
            return False
    return list(value) == sorted(set(value))


def first_wrong(kinds, weather, wishes, looks):
    """What fits tells, told anew by the document's words."""
    for place, (hour, number) in enumerate(looks):
        ahead = looks[:place]
        kind, came = wishes[number]
        if came > hour or hour not in kinds[kind][1]:
            return "wrong", place
        if number in [done for _, done in ahead] or len([at for at, _ in ahead if at == hour]) >= weather[hour]:
            return "wrong", place
    return ("fits",)


class FitsTest(unittest.TestCase):
    def test_each_reason(self):
        self.assertEqual(fits(THREE, WEATHER, WISHES, LOOKS), ("fits",))
        self.assertEqual(fits(THREE, (2, 2, 2), WISHES, ((0, 0), (0, 2))), ("wrong", 1))
        self.assertEqual(fits(THREE, (2, 2, 2), WISHES, ((1, 3), (2, 1))), ("wrong", 1))
        self.assertEqual(fits(THREE, (2, 2, 2), WISHES, ((0, 1), (1, 1), (1, 2))), ("wrong", 1))
        self.assertEqual(fits(THREE, (1, 2, 2), WISHES, ((0, 0), (0, 1))), ("wrong", 1))
        self.assertEqual(fits(THREE, (2, 2, 2), WISHES, ((0, 0), (0, 1))), ("fits",))

    def test_the_hour_at_which_a_wish_comes(self):
        for came in range(3):
            for hour in range(3):
                told = ("fits",) if hour >= came else ("wrong", 0)
                self.assertEqual(fits(THREE, (1, 1, 1), (("vega", came),), ((hour, 0),)), told)

    def test_the_hours_at_which_a_kind_is_up(self):
        book = Book("book 5 1\nkind a 1 1 3")
        told = [fits(book, (1, 1, 1, 1, 1), (("a", 0),), ((hour, 0),))[0] for hour in range(5)]
        self.assertEqual(told, ["wrong", "fits", "wrong", "fits", "wrong"])

    def test_as_many_looks_as_the_weather_lets(self):
        book = Book("book 2 4\nkind a 1 0-1")
        wishes = (("a", 0),) * 24
        for clear in range(5):
            for many in range(6):
                told = ("fits",) if many <= clear else ("wrong", clear)
                first = tuple((0, number) for number in range(many))
                last = tuple((1, number) for number in range(24 - many, 24))
                self.assertEqual(fits(book, (clear, 0), wishes, first), told)
                self.assertEqual(fits(book, (0, clear), wishes, last), told)

    def test_nothing_to_look_at(self):
        self.assertEqual(fits(THREE, (0, 0, 0), (), ()), ("fits",))
        self.assertEqual(fits(ONE, (0,), (("a", 0),), ()), ("fits",))
        self.assertEqual(fits(ONE, (0,), (("a", 0),), ((0, 0),)), ("wrong", 0))
        self.assertEqual(fits(ONE, (1,), (("a", 0),), ((0, 0),)), ("fits",))

    def test_all_looks_at_a_few_wishes(self):
        book = Book("book 2 2\nkind a 1 0\nkind b 1 0-1")
        kinds = {"a": (None, (0,)), "b": (None, (0, 1))}
        pairs = list(itertools.product(range(2), range(3)))
        for wishes in itertools.product(itertools.product("ab", range(2)), repeat=3):
            for lot in range(2**6):
                looks = tuple(pair for place, pair in enumerate(pairs) if lot >> place & 1)
                for weather in ((0, 2), (1, 1), (2, 1)):
                    self.assertEqual(fits(book, weather, wishes, looks), first_wrong(kinds, weather, wishes, looks))

    def test_many_nights(self):
        seen = set()
        for chance in chances(2000):
            book, kinds, weather, wishes = some_night(chance)
            looks = some_looks(chance, book, wishes)
            if chance.random() < 0.6:
                looks = tuple(sorted({*fitting_looks(chance, book, kinds, weather, wishes), *looks[:1]}))
            told = fits(book, weather, wishes, looks)
            self.assertTrue(same(told, first_wrong(kinds, weather, wishes, looks)))
            seen.add(told)
        self.assertGreater(len(seen), 5)


class WorthTest(unittest.TestCase):
    def test_each_done_wish_is_counted_once(self):
        self.assertEqual(worth_of(THREE, WISHES, ((0, 1), (1, 1), (2, 1))), (5, 1))
        self.assertEqual(worth_of(THREE, WISHES, ((0, 0), (0, 3))), (3, 1))
        self.assertEqual(worth_of(THREE, WISHES, ((0, 0),)), (3, 2))
        self.assertEqual(worth_of(THREE, (), ()), (0, 1))

    def test_looks_that_cannot_stand_count(self):
        self.assertEqual(worth_of(THREE, WISHES, ((0, 2), (2, 1))), (10, 1))

    def test_sums_are_in_least_terms(self):
        book = Book("book 1 1\nkind a 1/6 0\nkind b 1/3 0\nkind c 999/1000 0\nkind d 1000/999 0")
        wishes = (("a", 0), ("b", 0), ("a", 0), ("b", 0), ("c", 0), ("d", 0))
        for lot in range(2**6):
            looks = tuple((0, number) for number in range(6) if lot >> number & 1)
            total = sum((Fraction(*{"a": (1, 6), "b": (1, 3), "c": (999, 1000), "d": (1000, 999)}[wishes[number][0]])
                         for _, number in looks), Fraction(0))
            self.assertTrue(same(worth_of(book, wishes, looks), (total.numerator, total.denominator)))

    def test_many_nights(self):
        for chance in chances(500):
            book, kinds, _, wishes = some_night(chance)
            looks = some_looks(chance, book, wishes)
            done = {number for _, number in looks}
            total = sum((Fraction(*kinds[wishes[number][0]][0]) for number in done), Fraction(0))
            self.assertTrue(same(worth_of(book, wishes, looks), (total.numerator, total.denominator)))


class OpenTest(unittest.TestCase):
    def test_up_to_the_hour_and_ahead_of_it(self):
        self.assertEqual(open_at(THREE, WISHES, (), 0), (0, 1))
        self.assertEqual(open_at(THREE, WISHES, (), 1), (0, 1, 2, 3))
        self.assertEqual(open_at(THREE, WISHES, ((1, 0),), 1), (0, 1, 2, 3))
        self.assertEqual(open_at(THREE, WISHES, ((1, 0),), 2), (1, 2, 3))
        self.assertEqual(open_at(THREE, WISHES, ((0, 0), (2, 0)), 1), (1, 2, 3))
        self.assertEqual(open_at(THREE, (), (), 2), ())

    def test_looks_that_cannot_stand_do_their_wishes(self):
        self.assertEqual(open_at(THREE, WISHES, ((0, 2),), 1), (0, 1, 3))

    def test_wishes_whose_kind_is_not_up_stay_open(self):
        self.assertEqual(open_at(THREE, (("mars", 0),), (), 2), (0,))

    def test_many_nights(self):
        for chance in chances(500):
            book, _, _, wishes = some_night(chance)
            looks = some_looks(chance, book, wishes)
            for hour in range(book.hours):
                told = [
                    number for number in range(len(wishes))
                    if wishes[number][1] <= hour and not any(done == number and at < hour for at, done in looks)
                ]
                self.assertTrue(same(open_at(book, wishes, looks, hour), tuple(told)))


class WeatherTest(unittest.TestCase):
    def test_all_pairs_of_weathers(self):
        weathers = list(itertools.product(range(3), repeat=3))
        for weather, other in itertools.product(weathers, weathers):
            told = not any(one > two for one, two in zip(weather, other))
            self.assertIs(is_lesser(THREE, weather, other), told)

    def test_all_cuts(self):
        for weather in itertools.product(range(3), repeat=3):
            for hour in range(3):
                told = tuple(clear if at < hour else 0 for at, clear in enumerate(weather))
                self.assertTrue(same(cut(THREE, weather, hour), told))
        self.assertEqual(cut(ONE, (1,), 0), (0,))


class WrongTest(unittest.TestCase):
    def refused(self, call, error, value):
        told = raised(call)
        self.assertEqual(told and told[0], error, value)
        self.assertIs(told[1], value)

    def test_bad_weathers(self):
        count = 0
        more = [(1, 1, 3), (1, 1, -1), (1, 1), (1, 1, 1, 1), [1, 1, 1], (True, 1, 1)]
        for value in odd_values() + spoiled(WEATHER) + more:
            calls = [lambda: fits(THREE, value, WISHES, ()), lambda: is_lesser(THREE, value, WEATHER),
                     lambda: is_lesser(THREE, WEATHER, value), lambda: cut(THREE, value, 1)]
            for call in calls:
                if is_weather(value):
                    self.assertIsNone(raised(call))
                else:
                    self.refused(call, BadWeather, value)
                    count += 1
        self.assertGreater(count, 300)

    def test_bad_wishes(self):
        count = 0
        more = [(("mars", 0),) * 24, (("mars", 0),) * 25, (), (("mars", 3),), (("mars", -1),), (("moon", 0),),
                (("mars", True),),
                (["mars", 0],), [("mars", 0)], (("mars", 0, 0),), (("mars",),), ((0, "mars"),), (("mars", 0), None),
                ("mars", 0)]
        for value in odd_values() + spoiled(WISHES) + more:
            calls = [lambda: fits(THREE, WEATHER, value, ()), lambda: worth_of(THREE, value, ()),
                     lambda: open_at(THREE, value, (), 0)]
            for call in calls:
                if are_wishes(value):
                    self.assertIsNone(raised(call))
                else:
                    self.refused(call, BadWishes, value)
                    count += 1
        self.assertGreater(count, 300)

    def test_bad_looks(self):
        count = 0
        more = [((0, 4),), ((0, -1),), ((3, 0),), ((-1, 0),), ((0, 0), (0, 0)), ((0, 1), (0, 0)), ((1, 0), (0, 1)),
                ((0, True),),
                ((False, 0),), ([0, 0],), [(0, 0)], ((0,),), ((0, 0, 0),), ((0, 0), None), (0, 0), ((0, None),),
                (("0", 0),), ()]
        for value in odd_values() + spoiled(LOOKS) + more:
            calls = [lambda: fits(THREE, WEATHER, WISHES, value), lambda: worth_of(THREE, WISHES, value),
                     lambda: open_at(THREE, WISHES, value, 0)]
            for call in calls:
                if are_looks(value):
                    self.assertIsNone(raised(call))
                else:
                    self.refused(call, BadLooks, value)
                    count += 1
        self.assertGreater(count, 300)

    def test_looks_at_no_wishes(self):
        self.assertEqual(raised(worth_of, THREE, (), ((0, 0),)), (BadLooks, ((0, 0),)))
        self.assertEqual(worth_of(THREE, (("mars", 0),) * 24, ((0, 23),)), (5, 1))
        self.assertEqual(raised(worth_of, THREE, (("mars", 0),) * 24, ((0, 24),)), (BadLooks, ((0, 24),)))

    def test_no_hours(self):
        for value in odd_values() + spoiled(2):
            for call in (lambda: open_at(THREE, WISHES, LOOKS, value), lambda: cut(THREE, WEATHER, value)):
                if is_number(value, 3):
                    self.assertIsNone(raised(call))
                else:
                    self.refused(call, NoHour, value)

    def test_the_sequence_of_the_errors(self):
        bad = {"weather": (BadWeather, [0]), "other": (BadWeather, (9,)), "wishes": (BadWishes, None),
               "looks": (BadLooks, ((0, 9),)), "hour": (NoHour, True)}
        good = {"weather": WEATHER, "other": WEATHER, "wishes": WISHES, "looks": LOOKS, "hour": 2}
        told = {
            fits: ("weather", "wishes", "looks"), worth_of: ("wishes", "looks"), open_at: ("wishes", "looks", "hour"),
            is_lesser: ("weather", "other"), cut: ("weather", "hour"),
        }
        for call, names in told.items():
            for wrong in itertools.product((False, True), repeat=len(names)):
                values = [bad[name][1] if is_bad else good[name] for name, is_bad in zip(names, wrong)]
                due = [bad[name] for name, is_bad in zip(names, wrong) if is_bad] or [None]
                self.assertEqual(raised(call, THREE, *values), due[0])
                self.assertEqual(raised(call, book=THREE, **dict(zip(names, values))), due[0])
                if due[0]:
                    self.assertIs(raised(call, THREE, *values)[1], due[0][1])

    def test_what_one_book_lets_another_one_refuses(self):
        self.assertEqual(raised(cut, ONE, WEATHER, 0), (BadWeather, WEATHER))
        self.assertEqual(raised(worth_of, ONE, WISHES, ()), (BadWishes, WISHES))
        self.assertEqual(raised(open_at, ONE, (("a", 0),), (), 1), (NoHour, 1))
        self.assertEqual(raised(fits, ONE, (2,), (), ()), (BadWeather, (2,)))


class ArgumentsTest(unittest.TestCase):
    def test_by_name(self):
        self.assertEqual(fits(looks=LOOKS, wishes=WISHES, weather=WEATHER, book=THREE), ("fits",))
        self.assertEqual(worth_of(looks=LOOKS, wishes=WISHES, book=THREE), (13, 1))
        self.assertEqual(open_at(hour=1, looks=LOOKS, wishes=WISHES, book=THREE), (0, 2, 3))
        self.assertIs(is_lesser(other=(0, 0, 0), weather=WEATHER, book=THREE), False)
        self.assertEqual(cut(hour=2, weather=WEATHER, book=THREE), (1, 1, 0))

    def test_they_are_not_changed(self):
        before = dict(vars(THREE))
        for wrong in ([0, 0, 0], [("mars", 0)], [(0, 0)], {"mars": 0}):
            kept = wrong.copy()
            for call in (fits, worth_of, open_at, is_lesser, cut):
                many = {fits: 3, worth_of: 2, open_at: 3, is_lesser: 2, cut: 2}[call]
                self.assertIsNotNone(raised(call, THREE, *[wrong] * many))
            self.assertEqual(wrong, kept)
        self.assertEqual(vars(THREE), before)

    def test_what_is_told_is_plain(self):
        weather = Row((Whole(1), Whole(1), Whole(2)))
        wishes = Row((Row((Line("vega"), Whole(0))), Row((Line("mars"), Whole(1)))))
        looks = Row((Row((Whole(0), Whole(0))), Row((Whole(1), Whole(1)))))
        told = [
            fits(THREE, weather, wishes, looks), worth_of(THREE, wishes, looks),
            open_at(THREE, wishes, looks, Whole(1)), is_lesser(THREE, weather, weather),
            cut(THREE, weather, Whole(2)),
        ]
        self.assertEqual(told, [("fits",), (13, 2), (1,), True, (1, 1, 0)])
        for value in told:
            self.assertTrue(is_plain(value))

    def test_equal_calls_tell_the_same(self):
        for chance in chances(100):
            book, _, weather, wishes = some_night(chance)
            again = Book(book.text)
            looks = some_looks(chance, book, wishes)
            hour = chance.randrange(book.hours)
            for call, values in ((fits, (weather, wishes, looks)), (worth_of, (wishes, looks)), (cut, (weather, hour)),
                                 (open_at, (wishes, looks, hour)), (is_lesser, (weather, weather[::-1]))):
                told = call(book, *values)
                self.assertTrue(is_plain(told))
                self.assertTrue(same(told, call(book, *values)) and same(told, call(again, *values)))


class ForAllNightsTest(unittest.TestCase):
    def test_what_fits_goes_on_to_fit_if_some_are_left_out(self):
        for chance in chances(400):
            book, kinds, weather, wishes = some_night(chance)
            looks = fitting_looks(chance, book, kinds, weather, wishes)
            self.assertEqual(fits(book, weather, wishes, looks), ("fits",))
            for _ in range(5):
                some = tuple(look for look in looks if chance.random() < 0.7)
                self.assertEqual(fits(book, weather, wishes, some), ("fits",))

    def test_what_fits_goes_on_to_fit_where_no_hour_has_less(self):
        for chance in chances(400):
            book, kinds, weather, wishes = some_night(chance)
            looks = fitting_looks(chance, book, kinds, weather, wishes)
            more = tuple(chance.randint(clear, book.telescopes) for clear in weather)
            self.assertIs(is_lesser(book, weather, more), True)
            self.assertEqual(fits(book, more, wishes, looks), ("fits",))
            other = some_weather(chance, book)
            if is_lesser(book, weather, other):
                self.assertEqual(fits(book, other, wishes, looks), ("fits",))

    def test_what_fits_a_cut_weather(self):
        for chance in chances(400):
            book, kinds, weather, wishes = some_night(chance)
            hour = chance.randrange(book.hours)
            less = cut(book, weather, hour)
            self.assertIs(is_lesser(book, less, weather), True)
            looks = fitting_looks(chance, book, kinds, less, wishes)
            self.assertEqual(fits(book, less, wishes, looks), ("fits",))
            self.assertEqual(fits(book, weather, wishes, looks), ("fits",))
            self.assertEqual([at for at, _ in looks if at >= hour], [])
            for look in some_looks(chance, book, wishes):
                if look[0] >= hour:
                    self.assertEqual(fits(book, less, wishes, (look,)), ("wrong", 0))

    def test_what_fits_is_worth_as_many_worths_as_there_are_looks(self):
        for chance in chances(400):
            book, kinds, weather, wishes = some_night(chance)
            looks = fitting_looks(chance, book, kinds, weather, wishes)
            worths = [Fraction(*kinds[wishes[number][0]][0]) for _, number in looks]
            total = sum(worths, Fraction(0))
            self.assertEqual(worth_of(book, wishes, looks), (total.numerator, total.denominator))
            self.assertEqual(len(worths), len(looks))


if __name__ == "__main__":
    unittest.main()
