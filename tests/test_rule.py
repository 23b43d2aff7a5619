"""The rule: what it chooses, its nights, and what they are worth (section 7)."""

import itertools
import unittest

from tests.oracles import all_ways, amount, had, kinds_of, most_worth, pair, rule_anew, stands_before, taken, up_at
from tests.samples import FULL, ONE, SIX, THREE, Line, Row, Whole, book_of, calm_book, chances, is_plain, odd_values
from tests.samples import raised, same, some_book, some_night, some_weather, some_wishes, spoiled
from wheneverclear.best import best_worth
from wheneverclear.books import Book, up
from wheneverclear.errors import BadClear, BadKinds, BadWeather, BadWishes, NoHour
from wheneverclear.nights import cut, fits, worth_of
from wheneverclear.quarrels import agrees, quarrels
from wheneverclear.rule import chosen, night, worth_had
from wheneverclear.words import is_less

BOOK = Book("book 4 1\nkind far 3 0-2\nkind low 3 0-1\nkind dim 1/2 0-3")
WIDE = Book("book 2 3\nkind a 1 0-1\nkind b 5 1")
# Equal worths and as many later hours, though others: the wishes' sequence alone counts.
LIKE = Book("book 5 2\nkind x 1 0 2\nkind y 1 0 4\nkind z 1 0 3-4\nkind w 1/3 0")


class ChosenTest(unittest.TestCase):
    def test_the_greater_worth_first(self):
        self.assertEqual(chosen(WIDE, 1, ("a", "b", "a", "b"), 1), (1,))
        self.assertEqual(chosen(WIDE, 1, ("a", "b", "a", "b"), 2), (1, 3))
        self.assertEqual(chosen(WIDE, 1, ("a", "b", "a", "b"), 3), (0, 1, 3))
        self.assertEqual(chosen(WIDE, 1, ("a", "b"), 3), (0, 1))

    def test_then_fewer_later_hours(self):
        self.assertEqual(chosen(BOOK, 0, ("dim", "far", "low", "low"), 1), (2,))
        self.assertEqual(chosen(LIKE, 0, ("z", "y", "x"), 1), (1,))
        self.assertEqual(chosen(LIKE, 0, ("z", "z", "w", "y"), 2), (0, 3))
        book = Book("book 6 4\nkind early 1 0-5\nkind late 1 4-5\nkind some 1 0 2 5")
        self.assertEqual(chosen(book, 5, ("late", "early", "some"), 2), (0, 1))
        self.assertEqual(chosen(book, 4, ("early", "late"), 1), (0,))
        self.assertEqual(chosen(book, 0, ("early", "some"), 1), (1,))

    def test_then_the_place(self):
        self.assertEqual(chosen(LIKE, 0, ("x", "y"), 1), (0,))
        self.assertEqual(chosen(LIKE, 0, ("y", "x"), 1), (0,))
        self.assertEqual(chosen(LIKE, 0, ("y", "x", "y", "x"), 2), (0, 1))
        self.assertEqual(chosen(FULL, 7, ("h",) * 3 + ("a",) * 3, 4), (0, 1, 2, 3))

    def test_worth_counts_ahead_of_later_hours(self):
        book = Book("book 3 1\nkind a 2 0-2\nkind b 1 0")
        self.assertEqual(chosen(book, 0, ("b", "a"), 1), (1,))

    def test_none_and_nothing(self):
        self.assertEqual(chosen(BOOK, 0, (), 0), ())
        self.assertEqual(chosen(BOOK, 0, (), 1), ())
        self.assertEqual(chosen(BOOK, 3, ("dim", "dim"), 0), ())
        self.assertEqual(chosen(Book("book 2 1\nkind a 1 1"), 0, (), 1), ())

    def test_as_many_as_can_be(self):
        for clear in range(5):
            self.assertEqual(chosen(FULL, 23, ("c",) * 24, clear), tuple(range(clear)))
            for many in range(5):
                self.assertEqual(chosen(FULL, 0, ("c",) * many, clear), tuple(range(min(many, clear))))

    def test_all_rows_of_a_few_wishes(self):
        for book in (BOOK, LIKE, Book("book 3 2\nkind a 2 0-1\nkind b 2 0-2\nkind c 7/3 0 2\nkind d 2 0 2")):
            kinds = kinds_of(book)
            for hour in range(book.hours):
                before = stands_before(kinds, hour)
                for many, clear in itertools.product(range(4), range(book.telescopes + 1)):
                    for row in itertools.product(up(book, hour), repeat=many):
                        told = tuple(taken(range(many), lambda place: row[place], before, clear))
                        self.assertTrue(same(chosen(book, hour, row, clear), told))

    def test_many_books(self):
        for chance in chances(300):
            book, kinds = some_book(chance)
            hour, clear = chance.randrange(book.hours), chance.randint(0, book.telescopes)
            if up_at(kinds, hour):
                row = tuple(chance.choice(sorted(up_at(kinds, hour))) for _ in range(chance.randint(0, 24)))
                told = taken(range(len(row)), lambda place: row[place], stands_before(kinds, hour), clear)
                self.assertTrue(same(chosen(book, hour, row, clear), tuple(told)))


class NightTest(unittest.TestCase):
    def test_wishes_that_come_late(self):
        self.assertEqual(night(BOOK, (1, 1, 1, 1), (("low", 1), ("dim", 0))), ((0, 1), (1, 0)))
        self.assertEqual(night(BOOK, (1, 1, 1, 1), (("low", 2), ("dim", 3))), ((3, 1),))
        self.assertEqual(night(BOOK, (0, 1, 0, 0), (("far", 1), ("low", 1), ("low", 0))), ((1, 1),))

    def test_hours_at_which_no_kind_is_up(self):
        book = Book("book 4 2\nkind a 1 1\nkind b 2 1 3")
        self.assertEqual(night(book, (2, 2, 2, 2), (("a", 0), ("b", 0), ("b", 2), ("a", 2))), ((1, 0), (1, 1), (3, 2)))
        self.assertEqual(night(book, (2, 0, 2, 2), (("a", 0), ("b", 0))), ((3, 1),))

    def test_nothing(self):
        self.assertEqual([night(BOOK, (1, 1, 1, 1), ()), worth_had(BOOK, (1, 1, 1, 1), ())], [(), (0, 1)])
        wishes = (("dim", 0), ("low", 0))
        self.assertEqual([night(BOOK, (0, 0, 0, 0), wishes), worth_had(BOOK, (0, 0, 0, 0), wishes)], [(), (0, 1)])

    def test_twenty_four_wishes(self):
        wishes = tuple((FULL.names[number % 8], number // 2) for number in range(24))
        looks = night(FULL, (4,) * 24, wishes)
        self.assertEqual(looks, tuple((number // 2, number) for number in range(24)))
        self.assertEqual(worth_had(FULL, (4,) * 24, wishes), (8000, 333))
        self.assertEqual(len(night(FULL, (1,) * 24, (("a", 0),) * 24)), 24)
        self.assertEqual(len(night(FULL, (4,) + (0,) * 22 + (4,), (("a", 0),) * 24)), 8)

    def test_all_nights_of_a_few_wishes(self):
        book = Book("book 3 2\nkind a 2 0-1\nkind b 2 0-2\nkind c 7/3 0 2")
        kinds = kinds_of(book)
        for wishes in itertools.product(itertools.product("abc", range(3)), repeat=3):
            for weather in ((1, 1, 1), (2, 0, 1), (0, 1, 2)):
                looks = rule_anew(kinds, weather, wishes)
                self.assertTrue(same(night(book, weather, wishes), looks))
                self.assertTrue(same(worth_had(book, weather, wishes), pair(had(kinds, wishes, looks))))

    def test_many_nights(self):
        for chance in chances(300):
            book, kinds, weather, wishes = some_night(chance, 24)
            looks = rule_anew(kinds, weather, wishes)
            told = night(book, weather, wishes)
            self.assertTrue(is_plain(told) and same(told, looks))
            self.assertTrue(same(worth_had(book, weather, wishes), pair(had(kinds, wishes, looks))))
            self.assertTrue(same(told, night(Book(book.text), weather, wishes)))


class WrongTest(unittest.TestCase):
    def refused(self, call, error, value):
        told = raised(call)
        self.assertEqual(told and told[0], error, value)
        self.assertIs(told[1], value)

    def test_hours(self):
        for value in odd_values() + spoiled(3):
            if type(value) is int and 0 <= value < 4:
                self.assertEqual(chosen(BOOK, value, (), 0), ())
            else:
                self.refused(lambda: chosen(BOOK, value, (), 0), NoHour, value)

    def test_kinds(self):
        count = 0
        more = [("dim",) * 24, ("dim",) * 25, ("low",), ("dim", "low"), ["dim"], "dim", ("dim", None), (("dim",),),
                ("dim", ""), ("none",), (0,), ("dim", 0), {"dim": 0}, ("dim ",), ("Dim",)]
        for value in odd_values() + more + spoiled(("dim", "far", "dim")):
            is_tuple = type(value) is tuple and len(value) <= 24
            if is_tuple and all(type(kind) is str and kind in ("dim", "far") for kind in value):
                self.assertEqual(chosen(BOOK, 2, value, 0), ())
            else:
                self.refused(lambda: chosen(BOOK, 2, value, 0), BadKinds, value)
                count += 1
        self.assertGreater(count, 100)
        self.assertEqual(raised(chosen, FULL, 0, ("a",) * 25, 4), (BadKinds, ("a",) * 25))
        self.assertEqual(raised(chosen, WIDE, 0, ("a", "b"), 3), (BadKinds, ("a", "b")))
        self.assertIsNone(raised(chosen, WIDE, 1, ("a", "b"), 3))

    def test_clear(self):
        for book in (BOOK, LIKE, WIDE, FULL):
            for value in odd_values() + spoiled(2) + [0, 1, 2, 3, 4, 5, -1]:
                if type(value) is int and 0 <= value <= book.telescopes:
                    self.assertEqual(chosen(book, 0, (), value), ())
                else:
                    self.refused(lambda: chosen(book, 0, (), value), BadClear, value)

    def test_weathers_and_wishes(self):
        for value in odd_values() + spoiled((1, 0, 1)) + [(1, 1, 3), (2, 2, 2, 2), [1, 1, 1], (True, 1, 1)]:
            is_right = type(value) is tuple and len(value) == 3
            if not (is_right and all(type(clear) is int and 0 <= clear <= 2 for clear in value)):
                for call in (night, worth_had):
                    self.refused(lambda: call(THREE, value, ()), BadWeather, value)
        more = [(("mars", 0),) * 25, (("mars", 3),), (("moon", 0),), [("mars", 0)], (["mars", 0],), (("mars", False),)]
        for value in more + [None, 0, "mars", {}, ("mars", 0), (("mars",),)]:
            for call in (night, worth_had):
                self.refused(lambda: call(THREE, (1, 1, 1), value), BadWishes, value)
        self.assertIsNone(raised(night, THREE, (1, 1, 1), (("mars", 0),) * 24))

    def test_the_sequence_of_the_errors(self):
        bad = {"hour": (NoHour, 9), "kinds": (BadKinds, ["a"]), "clear": (BadClear, True),
               "weather": (BadWeather, None), "wishes": (BadWishes, ("a", 0))}
        good = {"hour": 1, "kinds": ("a", "b"), "clear": 1, "weather": (1, 1), "wishes": (("a", 0),)}
        for call, names in ((chosen, ("hour", "kinds", "clear")), (night, ("weather", "wishes")),
                            (worth_had, ("weather", "wishes"))):
            for wrong in itertools.product((False, True), repeat=len(names)):
                values = [bad[name][1] if is_bad else good[name] for name, is_bad in zip(names, wrong)]
                due = [bad[name] for name, is_bad in zip(names, wrong) if is_bad] or [None]
                self.assertEqual(raised(call, WIDE, *values), due[0])
                self.assertEqual(raised(call, book=WIDE, **dict(zip(names, values))), due[0])


class ArgumentsTest(unittest.TestCase):
    def test_by_name(self):
        self.assertEqual(chosen(clear=1, kinds=("b", "a"), hour=1, book=WIDE), (0,))
        self.assertEqual(night(wishes=(("a", 1),), weather=(0, 1), book=WIDE), ((1, 0),))
        self.assertEqual(worth_had(wishes=(("b", 1),), weather=(0, 1), book=WIDE), (5, 1))

    def test_they_are_not_changed(self):
        before = dict(vars(SIX))
        kept = [["moon"], {"moon": 0}, [("moon", 0)]]
        for value in kept:
            raised(chosen, SIX, 0, value, 1)
            raised(night, SIX, (0,) * 6, value)
        self.assertEqual(kept, [["moon"], {"moon": 0}, [("moon", 0)]])
        night(SIX, (1,) * 6, (("moon", 0),))
        self.assertEqual(vars(SIX), before)

    def test_what_is_told_is_plain(self):
        row = Row((Line("b"), Line("a"), "b"))
        self.assertTrue(same(chosen(WIDE, Whole(1), row, Whole(2)), (0, 2)))
        wishes = Row((Row((Line("a"), Whole(0))), ("b", Whole(1))))
        self.assertTrue(same(night(WIDE, Row((Whole(1), Whole(1))), wishes), ((0, 0), (1, 1))))
        self.assertTrue(same(worth_had(WIDE, Row((Whole(1), Whole(1))), wishes), (6, 1)))


class ForAllNightsTest(unittest.TestCase):
    """The sentences in bold, and those below the rows."""

    def test_looks_that_fit(self):
        for chance in chances(200):
            book, _, weather, wishes = some_night(chance, 24)
            looks = night(book, weather, wishes)
            self.assertEqual(fits(book, weather, wishes, looks), ("fits",))
            self.assertEqual(worth_had(book, weather, wishes), worth_of(book, wishes, looks))

    def test_nothing_that_comes_later_is_known(self):
        for chance in chances(200):
            book, _, weather, wishes = some_night(chance, 12)
            hour = chance.randrange(book.hours)
            looks = [look for look in night(book, weather, wishes) if look[0] <= hour]
            other = weather[:hour + 1] + some_weather(chance, book)[hour + 1:]
            early = tuple(wish for wish in wishes if wish[1] <= hour)
            numbers = [number for number, wish in enumerate(wishes) if wish[1] <= hour]
            again = [look for look in night(book, other, early) if look[0] <= hour]
            self.assertEqual([(at, numbers[number]) for at, number in again], looks)
            if hour + 1 < book.hours:
                less = cut(book, weather, hour + 1)
                self.assertEqual(list(night(book, less, wishes)), looks)

    def test_the_rule_beside_the_best_where_none_quarrel(self):
        for chance in chances(150):
            book, kinds = calm_book(chance)
            self.assertEqual(agrees(book)[0], "agrees")
            for _ in range(3):
                weather, wishes = some_weather(chance, book), some_wishes(chance, book)
                self.assertEqual(worth_had(book, weather, wishes), best_worth(book, weather, wishes))

    def test_the_rule_beside_a_trial_where_none_quarrel(self):
        for chance in chances(150):
            book, kinds = calm_book(chance, 5, 4)
            weather, wishes = some_weather(chance, book), some_wishes(chance, book, 6)
            self.assertEqual(worth_had(book, weather, wishes), pair(most_worth(kinds, weather, wishes)))

    def test_the_rule_on_all_nights_of_small_books(self):
        hours = [lot for many in (1, 2) for lot in itertools.combinations(range(2), many)]
        nights = list(itertools.product(itertools.product(range(2), repeat=2), range(3)))
        for own, other, worths in itertools.product(hours, hours, (((1, 1), (1, 1)), ((1, 1), (3, 2)))):
            kinds = {"a": (worths[0], own), "b": (worths[1], other)}
            book = book_of(2, 1, kinds)
            is_less_once = False
            for weather, many in nights:
                for wishes in itertools.product(itertools.product("ab", range(2)), repeat=many):
                    told, had_best = worth_had(book, weather, wishes), best_worth(book, weather, wishes)
                    best_way = max(had(kinds, wishes, way) for way in all_ways(kinds, weather, wishes))
                    self.assertEqual(had_best, pair(best_way))
                    is_less_once = is_less_once or is_less(told, had_best)
            self.assertEqual(is_less_once, quarrels(book) != ())

    def test_more_weather_never_makes_less(self):
        for chance in chances(300):
            book, _, weather, wishes = some_night(chance, 8)
            more = tuple(chance.randint(clear, book.telescopes) for clear in weather)
            self.assertFalse(is_less(worth_had(book, more, wishes), worth_had(book, weather, wishes)))

    def test_a_wish_more_at_any_place_never_makes_less(self):
        for chance in chances(300):
            book, _, weather, wishes = some_night(chance, 8)
            wishes = wishes[:23]
            place = chance.randint(0, len(wishes))
            wish = chance.choice(book.names), chance.randrange(book.hours)
            more = wishes[:place] + (wish,) + wishes[place:]
            self.assertFalse(is_less(worth_had(book, weather, more), worth_had(book, weather, wishes)))

    def test_more_on_all_small_nights(self):
        book = Book("book 3 2\nkind a 2 0 2\nkind b 3 0-1\nkind c 3 1-2")
        kinds = kinds_of(book)
        self.assertTrue(quarrels(book))
        all_wishes = list(itertools.product("abc", range(2)))
        for many in range(3):
            for wishes in itertools.product(all_wishes, repeat=many):
                for weather in itertools.product(range(2), repeat=3):
                    worth = had(kinds, wishes, night(book, weather, wishes))
                    for hour in range(3):
                        more = weather[:hour] + (weather[hour] + 1,) + weather[hour + 1:]
                        self.assertGreaterEqual(had(kinds, wishes, night(book, more, wishes)), worth)
                    for wish, place in itertools.product(all_wishes, range(many + 1)):
                        more = wishes[:place] + (wish,) + wishes[place:]
                        self.assertGreaterEqual(had(kinds, more, night(book, weather, more)), worth)

    def test_front_of_a_row_loses_nothing(self):
        for chance in chances(100):
            book, kinds = calm_book(chance, 6, 5)
            rows = agrees(book)[1]
            weather, wishes = some_weather(chance, book), some_wishes(chance, book, 8)
            done = {}
            for hour, clear in enumerate(weather):
                waiting = [
                    (rows[hour].index(kind), number) for number, (kind, came) in enumerate(wishes)
                    if came <= hour and kind in rows[hour] and number not in done
                ]
                done.update({number: True for _, number in sorted(waiting)[:clear]})
            worth = sum(amount(kinds, wishes[number][0]) for number in done)
            self.assertEqual(pair(worth), best_worth(book, weather, wishes))

    def test_one_wish_and_one_book(self):
        self.assertEqual([night(ONE, (1,), (("a", 0),) * 3), worth_had(ONE, (1,), (("a", 0),))], [((0, 0),), (1, 1)])


if __name__ == "__main__":
    unittest.main()
