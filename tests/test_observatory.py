"""Nights led hour by hour (section 13)."""

import itertools
import unittest
from fractions import Fraction

from tests.oracles import had, is_number, kinds_of, most_worth, pair, rule_anew
from tests.samples import FULL, ONE, Line, Row, Whole, calm_book, chances, is_plain, odd_values, raised, same, some_book
from wheneverclear.best import best_worth
from wheneverclear.books import Book
from wheneverclear.errors import BadClear, BadRest, NoKind, NothingToUndo, Over, TooMany
from wheneverclear.nights import cut, fits, worth_of
from wheneverclear.observatory import Night
from wheneverclear.rule import night, worth_had

BOOK = Book("book 3 1\nkind mars 5 0-1\nkind vega 3/2 0-2")
WIDE = Book("book 4 3\nkind a 2 0-3\nkind b 5/2 1 3\nkind c 1/2 0-1")
NAMES = ("book", "now", "wishes", "weather", "looks", "worth")


def state(led):
    """All that can be read off a night."""
    return tuple(getattr(led, name) for name in NAMES)


def led_by(book, deeds):
    """A night to which wishes, as strings, and hours, as integers, came."""
    led = Night(book)
    for deed in deeds:
        (led.wish if isinstance(deed, str) else led.hour)(deed)
    return led


def some_deeds(chance, book, most=24):
    """Wishes and hours, in any sequence, of a night that may be over or not."""
    deeds = [chance.choice(book.names) for _ in range(chance.randint(0, most))]
    hours = [chance.randint(0, book.telescopes) for _ in range(chance.randint(0, book.hours))]
    for clear in hours:
        deeds.insert(chance.randint(0, len(deeds)), clear)
    # No wish comes when the night is over.
    if len(hours) == book.hours:
        while isinstance(deeds[-1], str):
            deeds.pop()
    return deeds


def told_anew(book, kinds, deeds):
    """What can be read off a night to which these came, by the document's words."""
    wishes, weather = [], []
    for deed in deeds:
        if isinstance(deed, str):
            wishes.append((deed, len(weather)))
        else:
            weather.append(deed)
    whole = weather + [0] * (book.hours - len(weather))
    looks = rule_anew(kinds, whole, wishes)
    return book, len(weather), tuple(wishes), tuple(weather), looks, pair(had(kinds, wishes, looks))


class BeginningTest(unittest.TestCase):
    def test_a_night_that_begins(self):
        for book in (BOOK, WIDE, ONE, FULL):
            led = Night(book)
            self.assertIs(led.book, book)
            self.assertTrue(same(state(led)[1:], (0, (), (), (), (0, 1))))
            self.assertEqual(led.lost(), (0, 1))
            self.assertEqual(led.at_least((0,) * book.hours), (0, 1))
            self.assertEqual(raised(led.undo), (NothingToUndo, None))

    def test_its_properties_are_set_when_it_is_created(self):
        self.assertLessEqual(set(NAMES), set(vars(Night(BOOK))))

    def test_by_name(self):
        led = Night(book=BOOK)
        self.assertEqual([led.wish(kind="vega"), led.at_least(rest=(1, 1, 1)), led.hour(clear=1)], [0, (3, 2), (0,)])


class WishTest(unittest.TestCase):
    def test_numbers_and_hours(self):
        led = Night(BOOK)
        told = [led.wish("vega"), led.wish("mars"), led.hour(0), led.wish("vega"), led.hour(1), led.wish("mars")]
        self.assertTrue(same(told, [0, 1, (), 2, (1,), 3]))
        self.assertEqual(led.wishes, (("vega", 0), ("mars", 0), ("vega", 1), ("mars", 2)))
        self.assertEqual(led.now, 2)

    def test_kinds_that_are_none(self):
        for value in odd_values() + ["Mars", "vega ", ("mars",)]:
            led = led_by(BOOK, ["vega", 1])
            before = state(led)
            if value == "mars":
                self.assertEqual(led.wish(value), 1)
            else:
                self.assertEqual(raised(led.wish, value), (NoKind, value))
                self.assertTrue(same(before, state(led)))
        value = ["mars"]
        self.assertIs(raised(Night(BOOK).wish, value)[1], value)

    def test_a_night_that_is_over(self):
        led = led_by(BOOK, ["vega", 1, 1, 1])
        before = state(led)
        self.assertEqual(raised(led.wish, "mars"), (Over, None))
        self.assertEqual(raised(led.wish, "sun"), (NoKind, "sun"))
        self.assertTrue(same(before, state(led)))
        led.undo()
        self.assertEqual(led.wish("mars"), 1)

    def test_twenty_four_wishes_and_one_more(self):
        led = Night(BOOK)
        self.assertEqual([led.wish("mars") for _ in range(24)], list(range(24)))
        before = state(led)
        self.assertEqual(raised(led.wish, "mars"), (TooMany, 25))
        self.assertEqual(raised(led.wish, "sun"), (NoKind, "sun"))
        self.assertTrue(same(before, state(led)))
        led.hour(1)
        self.assertEqual(raised(led.wish, "vega"), (TooMany, 25))
        for clear in (1, 1):
            led.hour(clear)
        self.assertEqual(raised(led.wish, "vega"), (Over, None))
        for _ in range(4):
            led.undo()
        self.assertEqual(led.wish("vega"), 23)
        self.assertEqual(raised(led.wish, "vega"), (TooMany, 25))


class HourTest(unittest.TestCase):
    def test_of_the_document(self):
        led = led_by(BOOK, ["vega", "mars"])
        self.assertEqual([led.hour(1), led.now, led.wish("mars"), led.hour(1)], [(1,), 1, 2, (2,)])
        self.assertEqual([led.looks, led.worth, led.lost()], [((0, 1), (1, 2)), (10, 1), (0, 1)])

    def test_several_telescopes(self):
        led = led_by(WIDE, ["c", "a", "a", "b"])
        self.assertEqual([led.hour(3), led.hour(3), led.hour(2)], [(0, 1, 2), (3,), ()])
        led = led_by(WIDE, ["c", "a", "a", "b"])
        self.assertEqual([led.hour(0), led.hour(2), led.hour(3), led.hour(1)], [(), (1, 3), (2,), ()])

    def test_the_night_goes_by(self):
        led = Night(BOOK)
        for hour in range(3):
            self.assertEqual([led.now, led.weather], [hour, (1, 0, 1)[:hour]])
            self.assertEqual(led.hour((1, 0, 1)[hour]), ())
        self.assertEqual([led.now, led.weather], [3, (1, 0, 1)])

    def test_numbers_that_are_none(self):
        for value in odd_values() + [4, 1.0, "1", (1,)]:
            led = led_by(WIDE, ["a", 1])
            before = state(led)
            if is_number(value, 3):
                self.assertEqual(type(led.hour(value)), tuple)
            else:
                self.assertEqual(raised(led.hour, value), (BadClear, value))
                self.assertTrue(same(before, state(led)))
        value = [1]
        self.assertIs(raised(Night(BOOK).hour, value)[1], value)

    def test_a_night_that_is_over(self):
        led = led_by(BOOK, ["vega", 1, 1, 1])
        before = state(led)
        for clear in (0, 1):
            self.assertEqual(raised(led.hour, clear), (Over, None))
        for clear in (2, -1, True, None):
            self.assertEqual(raised(led.hour, clear), (BadClear, clear))
        self.assertTrue(same(before, state(led)))

    def test_wishes_that_come_late(self):
        led = led_by(BOOK, [1, "mars", "vega"])
        self.assertEqual([led.hour(1), led.wish("vega"), led.hour(1), led.lost()], [(0,), 2, (1,), (0, 1)])
        led = led_by(BOOK, [1, 1, "mars"])
        self.assertEqual([led.hour(1), led.worth], [(), (0, 1)])


class UndoTest(unittest.TestCase):
    def test_of_the_document(self):
        led = led_by(BOOK, ["vega", "mars", 1, "mars", 1])
        self.assertEqual([led.undo(), led.now, led.looks, led.hour(0)], [None, 1, ((0, 1),), ()])
        self.assertEqual([led.at_least((1,)), led.at_least((0,)), led.lost()], [(13, 2), (5, 1), (0, 1)])

    def test_all_that_came_is_taken_back(self):
        for chance in chances(60):
            book, _ = some_book(chance, 6)
            deeds = some_deeds(chance, book)
            led, states = Night(book), []
            for deed in deeds:
                states.append(state(led))
                (led.wish if isinstance(deed, str) else led.hour)(deed)
            for before in states[::-1]:
                self.assertIsNone(led.undo())
                self.assertTrue(same(before, state(led)))
            self.assertEqual(raised(led.undo), (NothingToUndo, None))
            self.assertTrue(same(state(Night(book)), state(led)))

    def test_what_comes_behind_an_undo(self):
        led = led_by(BOOK, ["vega", 1, "mars"])
        led.undo()
        led.undo()
        self.assertEqual([led.wish("mars"), led.hour(1), led.wishes], [1, (1,), (("vega", 0), ("mars", 0))])
        for _ in range(3):
            led.undo()
        self.assertEqual(raised(led.undo), (NothingToUndo, None))

    def test_what_was_refused_is_not_taken_back(self):
        led = led_by(BOOK, ["vega"])
        for call, value in ((led.wish, "sun"), (led.hour, 2), (led.hour, None), (led.at_least, ())):
            self.assertIsNotNone(raised(call, value))
        led.undo()
        self.assertTrue(same(state(Night(BOOK)), state(led)))


class LostTest(unittest.TestCase):
    def test_of_the_document(self):
        far = Night(Book("book 3 1\nkind mars 5 0 2\nkind vega 3/2 0-1"))
        told = [far.wish("mars"), far.wish("vega"), far.hour(1), far.hour(0), far.hour(1), far.worth, far.lost()]
        self.assertEqual(told, [0, 1, (0,), (), (), (5, 1), (3, 2)])

    def test_beside_a_trial_of_all_nights(self):
        seen = 0
        for number, chance in enumerate(chances(200)):
            book, kinds = some_book(chance, 6, 4)
            led = Night(book)
            deeds = some_deeds(chance, book, 6)
            if number % 2:
                # A few wishes at the beginning, and a few clear telescopes: here much can be thrown away.
                deeds = [chance.choice(book.names) for _ in range(4)]
                deeds += [chance.choice((0, 1)) for _ in range(book.hours)]
            for deed in deeds:
                (led.wish if isinstance(deed, str) else led.hour)(deed)
                whole = led.weather + (0,) * (book.hours - led.now)
                thrown = most_worth(kinds, whole, led.wishes) - had(kinds, led.wishes, led.looks)
                self.assertTrue(same(led.lost(), pair(thrown)))
                seen += thrown > 0
        self.assertGreater(seen, 5)

    def test_nothing_is_ever_lost_by_a_book_that_agrees(self):
        for chance in chances(100):
            book, _ = calm_book(chance, 12)
            led = Night(book)
            for deed in some_deeds(chance, book):
                self.assertEqual(led.lost(), (0, 1))
                (led.wish if isinstance(deed, str) else led.hour)(deed)
            self.assertEqual(led.lost(), (0, 1))


class AtLeastTest(unittest.TestCase):
    def test_of_the_document(self):
        led = led_by(BOOK, ["vega", "mars"])
        self.assertEqual([led.at_least((0, 1, 1)), led.hour(1), led.wish("mars"), led.at_least((0, 1))],
                         [(13, 2), (1,), 2, (13, 2)])

    def test_a_rest_of_no_hours(self):
        led = led_by(BOOK, ["vega", 1, 1, 1])
        self.assertEqual(led.at_least(()), led.worth)
        for rest in ((0,), (1,), [], None, (None,), ""):
            self.assertEqual(raised(led.at_least, rest), (BadRest, rest))
        self.assertEqual(raised(Night(BOOK).at_least, ()), (BadRest, ()))

    def test_rests_that_are_none(self):
        for value in odd_values() + [(4, 0), (0, -1), (True, 1), (1, None), [1, 1], "11", (1, 1, 1), ((1, 1),)]:
            led = led_by(WIDE, ["a", 1, "b", 0])
            before = state(led)
            if type(value) is tuple and len(value) == 2 and all(is_number(clear, 3) for clear in value):
                self.assertTrue(is_plain(led.at_least(value)))
            else:
                self.assertEqual(raised(led.at_least, value), (BadRest, value))
            self.assertTrue(same(before, state(led)))
        value = [1, 1]
        self.assertIs(raised(led_by(BOOK, [0]).at_least, value)[1], value)

    def test_the_night_stays_as_it_is(self):
        led = led_by(WIDE, ["a", "c", 1, "b"])
        before = state(led)
        told = [led.at_least(rest) for rest in ((0, 0, 0), (3, 3, 3), (0, 3, 1))]
        self.assertEqual(told, [led.at_least(rest) for rest in ((0, 0, 0), (3, 3, 3), (0, 3, 1))])
        self.assertTrue(same(before, state(led)))
        led.undo()
        self.assertEqual(len(led.wishes), 2)

    def test_just_so_much_is_clear(self):
        for chance in chances(100):
            book, kinds = some_book(chance, 8)
            led = led_by(book, some_deeds(chance, book))
            rest = tuple(chance.randint(0, book.telescopes) for _ in range(book.hours - led.now))
            told = led.at_least(rest)
            looks = rule_anew(kinds, led.weather + rest, led.wishes)
            self.assertTrue(same(told, pair(had(kinds, led.wishes, looks))))
            self.assertEqual(told, worth_had(book, led.weather + rest, led.wishes))
            for clear in rest:
                led.hour(clear)
            self.assertTrue(same(told, led.worth))

    def test_at_the_end_there_is_at_least_as_much(self):
        for chance in chances(150):
            book, _ = some_book(chance, 6)
            led = led_by(book, some_deeds(chance, book, 12))
            promised = []
            while led.now < book.hours:
                for _ in range(chance.randint(0, 2)):
                    if len(led.wishes) < 24:
                        led.wish(chance.choice(book.names))
                rest = tuple(chance.randint(0, book.telescopes) for _ in range(book.hours - led.now))
                promised = [(left, told) for left, told in promised] + [(rest, led.at_least(rest))]
                # Most of what was told is held by the weather that comes: no hour has less clear.
                due = [left[0] for left, _ in promised]
                clear = chance.choice((max(due), min(due), chance.choice(due)))
                led.hour(clear)
                promised = [(left[1:], told) for left, told in promised if left[0] <= clear]
            for _, told in promised:
                self.assertGreaterEqual(Fraction(*led.worth), Fraction(*told))


class CopyTest(unittest.TestCase):
    def test_alike_in_all_things(self):
        for chance in chances(40):
            book, _ = some_book(chance, 6)
            led = led_by(book, some_deeds(chance, book))
            other = led.copy()
            self.assertIs(type(other), Night)
            self.assertTrue(same(state(led), state(other)))
            self.assertEqual(led.lost(), other.lost())
            while led.now or led.wishes:
                led.undo()
                other.undo()
                self.assertTrue(same(state(led), state(other)))
            self.assertEqual(raised(other.undo), (NothingToUndo, None))

    def test_a_night_of_its_own(self):
        led = led_by(BOOK, ["vega", 1])
        other = led.copy()
        before = state(led)
        other.wish("mars")
        other.hour(1)
        self.assertTrue(same(before, state(led)))
        after = state(other)
        led.undo()
        led.undo()
        self.assertTrue(same(after, state(other)))
        self.assertEqual([led.now, other.now], [0, 2])


class ForAllNightsTest(unittest.TestCase):
    """The sentences in bold, and those below the rows."""

    def test_looks_fit_and_are_those_of_the_rule(self):
        for chance in chances(150):
            book, kinds = some_book(chance)
            deeds = some_deeds(chance, book)
            led = Night(book)
            for number, deed in enumerate(deeds):
                told = (led.wish if isinstance(deed, str) else led.hour)(deed)
                whole = led.weather + (0,) * (book.hours - led.now)
                self.assertEqual(fits(book, whole, led.wishes, led.looks), ("fits",))
                self.assertEqual(night(book, whole, led.wishes), led.looks)
                self.assertEqual(led.worth, worth_of(book, led.wishes, led.looks))
                self.assertTrue(is_plain((told,) + state(led)[1:]))
                if isinstance(deed, int):
                    last = tuple(number for hour, number in led.looks if hour == led.now - 1)
                    self.assertTrue(same(told, last))
            self.assertTrue(same(told_anew(book, kinds, deeds), state(led)))

    def test_all_short_nights(self):
        kinds = kinds_of(BOOK)
        for deeds in itertools.product(("mars", "vega", 0, 1), repeat=4):
            if deeds[:3].count(0) + deeds[:3].count(1) == 3:
                continue
            self.assertTrue(same(told_anew(BOOK, kinds, deeds), state(led_by(BOOK, deeds))))

    def test_the_worth_of_a_best_night_by_a_book_that_agrees(self):
        for chance in chances(60):
            book, _ = calm_book(chance, 12)
            led = led_by(book, some_deeds(chance, book))
            while led.now < book.hours:
                led.hour(chance.randint(0, book.telescopes))
            self.assertEqual(led.worth, best_worth(book, led.weather, led.wishes))
            if book.hours > 1:
                self.assertEqual(cut(book, led.weather, 1)[0], led.weather[0])

    def test_derived_classes(self):
        led = Night(WIDE)
        told = [led.wish(Line("a")), led.hour(Whole(2)), led.at_least(Row((Whole(1), 0, 0)))]
        self.assertTrue(is_plain((*told, *state(led)[1:])))

    def test_equal_nights_go_the_same_way(self):
        for chance in chances(30):
            book, _ = some_book(chance, 6)
            deeds = some_deeds(chance, book)
            one, other = led_by(book, deeds), led_by(Book(book.text), deeds)
            self.assertTrue(same(state(one)[1:], state(other)[1:]))
            self.assertEqual([one.lost(), one.lost()], [other.lost(), other.lost()])

    def test_the_book_stays(self):
        before = dict(vars(WIDE))
        led_by(WIDE, ["a", 1, "b", 2, "c", 3]).lost()
        self.assertEqual(vars(WIDE), before)

    def test_the_greatest_night(self):
        led = led_by(FULL, ["a", "b", "c", "d", "e", "f", "g", "h"] * 3)
        self.assertEqual(led.hour(4), (0, 1, 2, 3))
        self.assertEqual(led.at_least((1,) * 23), (8000, 333))
        for _ in range(23):
            led.hour(1)
        self.assertEqual([len(led.looks), led.worth, led.lost()], [24, (8000, 333), (0, 1)])


if __name__ == "__main__":
    unittest.main()
