"""How few clear hours are enough: enough, doable, surely, worst, and why (section 10)."""

import itertools
import unittest

from tests.oracles import are_hours_from, due_of, fewest_clear, is_number, kinds_of, least_due, lots_of_hours
from tests.oracles import lots_of_kinds, matched, most_due, right_why_enough
from tests.samples import FULL, ONE, SIX, Line, Row, Whole, book_of, chances, is_plain, odd_values, raised, same
from tests.samples import some_book, some_wishes, spoiled
from wheneverclear.books import Book
from wheneverclear.enough import doable, enough, shows_why_enough, shows_worst, surely, why_enough, worst
from wheneverclear.errors import BadHours, BadNumber, BadWishes, NoHour

BOOK = Book("book 6 1\nkind moon 3 0-2\nkind comet 2 1-4\nkind star 1 0-5")
MOON, COMET, STAR = ("moon", 0), ("comet", 0), ("star", 0)
THREE_OF_THEM = (MOON, COMET, STAR)
GAP = Book("book 4 2\nkind a 1 0\nkind b 2 3")
ALL_KINDS = tuple((kind, 0) for kind in "abcdefgh")

CALLS = {
    enough: (), why_enough: (), shows_why_enough: (("nothing",),), doable: ((),), surely: (0,), worst: (0,),
    shows_worst: (0, ()),
}


def small_nights():
    """(book, its kinds, wishes, hour) of small nights of any form."""
    for chance in chances(150):
        book, kinds = some_book(chance, 5, 4)
        yield book, kinds, some_wishes(chance, book, 6), chance.randrange(book.hours)


class EnoughTest(unittest.TestCase):
    def test_of_the_document(self):
        self.assertEqual(enough(BOOK, THREE_OF_THEM, 0), 4)
        self.assertEqual(enough(BOOK, THREE_OF_THEM + (MOON,), 0), 5)
        self.assertIsNone(enough(BOOK, (MOON,) * 4, 0))
        self.assertEqual(enough(BOOK, (MOON,) * 3, 0), 6)
        self.assertIsNone(enough(BOOK, THREE_OF_THEM, 3))

    def test_no_wish_is_due(self):
        for hour in range(6):
            self.assertEqual(enough(BOOK, (), hour), 0)
            self.assertEqual(why_enough(BOOK, (), hour), ("nothing",))
            self.assertEqual(worst(BOOK, (), hour, 0), ())
            self.assertEqual([surely(BOOK, (), hour, clear) for clear in range(7 - hour)], [0] * (7 - hour))

    def test_wishes_that_come_late_are_not_due(self):
        wishes = (("star", 4), ("star", 5), ("moon", 4))
        self.assertEqual([enough(BOOK, wishes, hour) for hour in range(6)], [0, 0, 0, 0, None, None])
        self.assertEqual([enough(BOOK, wishes[:2], hour) for hour in range(6)], [0, 0, 0, 0, 1, None])
        self.assertEqual(enough(BOOK, (("moon", 2),), 2), 4)
        self.assertEqual(doable(BOOK, wishes, 3, (3, 4, 5)), 0)
        self.assertEqual(surely(BOOK, wishes, 3, 3), 0)
        self.assertEqual(doable(BOOK, wishes, 4, (4, 5)), 1)

    def test_an_hour_at_which_no_kind_is_up(self):
        self.assertEqual(enough(GAP, (("a", 0),), 0), 4)
        self.assertIsNone(enough(GAP, (("a", 0),), 1))
        self.assertEqual([enough(GAP, (("b", 0),), hour) for hour in range(4)], [4, 3, 2, 1])
        self.assertEqual([surely(GAP, (("b", 0), ("a", 0)), 1, clear) for clear in range(4)], [0, 0, 0, 1])
        self.assertEqual([doable(GAP, (("b", 0), ("a", 0)), 1, hours) for hours in ((1, 2), (2, 3), ())], [0, 1, 0])

    def test_telescopes_do_not_count(self):
        for telescopes in (1, 4):
            book = Book(f"book 3 {telescopes}\nkind a 1 0-1")
            self.assertEqual([enough(book, (("a", 0),) * many, 0) for many in range(4)], [0, 2, 3, None])
            self.assertEqual(doable(book, (("a", 0),) * 4, 0, (0, 1, 2)), 2)

    def test_worths_do_not_count(self):
        other = Book("book 6 1\nkind moon 1/9 0-2\nkind comet 1000 1-4\nkind star 5 0-5")
        for clear in range(7):
            self.assertEqual(surely(other, THREE_OF_THEM, 0, clear), surely(BOOK, THREE_OF_THEM, 0, clear))

    def test_small_nights_beside_a_trial_of_all_lots_of_hours(self):
        seen = set()
        for book, kinds, wishes, hour in small_nights():
            told = enough(book, wishes, hour)
            self.assertTrue(same(told, fewest_clear(kinds, book.hours, wishes, hour)))
            seen.add(told)
        self.assertGreaterEqual(seen, {None, 0, 1, 2, 3, 4})

    def test_all_wishes_for_two_kinds(self):
        lots = [lot for many in (1, 2, 3) for lot in itertools.combinations(range(3), many)]
        for own, other in itertools.product(lots, lots):
            kinds = {"a": ((1, 1), own), "b": ((2, 1), other)}
            book = book_of(3, 1, kinds)
            for many, more, hour in itertools.product(range(3), range(3), range(3)):
                wishes = (("a", 0),) * many + (("b", 1),) * more
                self.assertEqual(enough(book, wishes, hour), fewest_clear(kinds, 3, wishes, hour))
                told = why_enough(book, wishes, hour)
                self.assertTrue(right_why_enough(kinds, 3, wishes, hour, enough(book, wishes, hour), told))


class WhyTest(unittest.TestCase):
    def test_of_the_document(self):
        self.assertEqual(why_enough(BOOK, THREE_OF_THEM, 0), ("lot", ("moon",)))
        self.assertEqual(why_enough(BOOK, THREE_OF_THEM, 3), ("lot", ("moon",)))
        self.assertEqual(why_enough(BOOK, (("star", 4),), 3), ("nothing",))

    def test_what_is_told_is_right_and_is_shown(self):
        for book, kinds, wishes, hour in small_nights():
            told = why_enough(book, wishes, hour)
            self.assertTrue(is_plain(told))
            self.assertTrue(right_why_enough(kinds, book.hours, wishes, hour, enough(book, wishes, hour), told))
            self.assertIs(shows_why_enough(book, wishes, hour, told), True)

    def test_all_lots_of_kinds_are_shown_or_not(self):
        for book, kinds, wishes, hour in small_nights():
            told = enough(book, wishes, hour)
            for value in [("lot", lot) for lot in lots_of_kinds(kinds)] + [("nothing",), ("nothing", ()), ()]:
                is_right = right_why_enough(kinds, book.hours, wishes, hour, told, value)
                self.assertIs(shows_why_enough(book, wishes, hour, value), is_right, (wishes, hour, value))

    def test_kinds_without_a_due_wish_may_stand_in_a_lot(self):
        book = Book("book 3 1\nkind a 1 0\nkind b 1 0\nkind c 1 2")
        self.assertEqual(enough(book, (("a", 0),), 0), 3)
        self.assertIs(shows_why_enough(book, (("a", 0),), 0, ("lot", ("a", "b"))), True)
        self.assertIs(shows_why_enough(book, (("a", 0),), 0, ("lot", ("a", "c"))), False)
        self.assertIs(shows_why_enough(book, (("a", 0),), 0, ("lot", ("b",))), False)
        self.assertIs(shows_why_enough(book, (("a", 0),), 0, ("lot", ())), False)
        # b has no hour any more: as many, none, of its wishes are due as it has hours.
        self.assertIs(shows_why_enough(book, (("a", 0),), 1, ("lot", ("b",))), False)
        self.assertIs(shows_why_enough(book, (("a", 0),), 1, ("lot", ("a", "b"))), True)

    def test_values_near_right_ones(self):
        kinds = kinds_of(BOOK)
        for wishes, hour in ((THREE_OF_THEM, 0), (THREE_OF_THEM, 3), ((MOON,) * 4, 0), ((), 0), ((STAR, COMET), 2)):
            value = why_enough(BOOK, wishes, hour)
            for near in spoiled(value) + odd_values():
                is_right = right_why_enough(kinds, 6, wishes, hour, enough(BOOK, wishes, hour), near)
                self.assertIs(shows_why_enough(BOOK, wishes, hour, near), is_right, near)

    def test_kinds_in_another_sequence_or_twice(self):
        wishes = (MOON,) * 2 + (STAR,) * 4
        self.assertEqual(enough(BOOK, wishes, 0), 6)
        self.assertIs(shows_why_enough(BOOK, wishes, 0, ("lot", ("moon", "star"))), True)
        for lot in (("star", "moon"), ("moon", "moon", "star"), ("moon", "star", "star"), ["moon", "star"],
                    ("moon", "star", "sun"), ("moon", "star", None), "moon", ("moon", ("star",))):
            self.assertIs(shows_why_enough(BOOK, wishes, 0, ("lot", lot)), False, lot)


class DoableTest(unittest.TestCase):
    def test_of_the_document(self):
        self.assertEqual(doable(BOOK, THREE_OF_THEM, 0, (3, 4, 5)), 2)
        self.assertEqual(doable(BOOK, THREE_OF_THEM, 0, ()), 0)
        self.assertEqual(doable(BOOK, THREE_OF_THEM, 0, (0, 1, 2, 3, 4, 5)), 3)
        self.assertEqual(doable(BOOK, THREE_OF_THEM, 0, (0,)), 1)
        self.assertEqual(doable(BOOK, (MOON,) * 4, 0, (0, 1, 2, 3)), 3)
        self.assertEqual(doable(BOOK, (MOON, STAR), 5, (5,)), 1)

    def test_all_lots_of_hours_of_small_nights(self):
        for book, kinds, wishes, hour in small_nights():
            for clear in range(book.hours - hour + 1):
                for lot in lots_of_hours(book.hours, hour, clear):
                    told = doable(book, wishes, hour, lot)
                    self.assertTrue(same(told, most_due(kinds, book.hours, wishes, hour, lot)))

    def test_hours_that_are_none(self):
        for value in odd_values() + spoiled((2, 4, 5)) + [(3, 3), (4, 3), [3, 4], (3, 6), (0, 3), (2,), (3.5,)]:
            due = None if are_hours_from(6, 3, value) else (BadHours, value)
            self.assertEqual(raised(doable, BOOK, THREE_OF_THEM, 3, value), due)
        self.assertIsNone(raised(doable, BOOK, THREE_OF_THEM, 3, (3, 4, 5)))
        self.assertEqual(raised(doable, BOOK, THREE_OF_THEM, 3, (2, 3)), (BadHours, (2, 3)))
        self.assertEqual(raised(doable, BOOK, THREE_OF_THEM, 0, (False, True)), (BadHours, (False, True)))


class SurelyTest(unittest.TestCase):
    def test_of_the_document(self):
        self.assertEqual([surely(BOOK, THREE_OF_THEM, 0, clear) for clear in range(7)], [0, 1, 2, 2, 3, 3, 3])

    def test_small_nights_beside_a_trial_of_all_lots_of_hours(self):
        for book, kinds, wishes, hour in small_nights():
            for clear in range(book.hours - hour + 1):
                least = least_due(kinds, book.hours, wishes, hour, clear)
                self.assertTrue(same(surely(book, wishes, hour, clear), least))
                told = worst(book, wishes, hour, clear)
                self.assertTrue(is_plain(told) and are_hours_from(book.hours, hour, told) and len(told) == clear)
                self.assertEqual(most_due(kinds, book.hours, wishes, hour, told), least)
                self.assertIs(shows_worst(book, wishes, hour, clear, told), True)

    def test_all_lots_of_hours_are_shown_or_not(self):
        for book, kinds, wishes, hour in list(small_nights())[:60]:
            left = book.hours - hour
            lots = [lot for clear in range(left + 1) for lot in lots_of_hours(book.hours, hour, clear)]
            for clear in range(left + 1):
                least = least_due(kinds, book.hours, wishes, hour, clear)
                for lot in lots:
                    is_right = len(lot) == clear and most_due(kinds, book.hours, wishes, hour, lot) == least
                    self.assertIs(shows_worst(book, wishes, hour, clear, lot), is_right)

    def test_values_near_right_ones(self):
        kinds = kinds_of(BOOK)
        for clear in range(7):
            value = worst(BOOK, THREE_OF_THEM, 0, clear)
            least = surely(BOOK, THREE_OF_THEM, 0, clear)
            for near in spoiled(value) + odd_values():
                is_right = (
                    are_hours_from(6, 0, near) and len(near) == clear
                    and most_due(kinds, 6, THREE_OF_THEM, 0, near) == least
                )
                self.assertIs(shows_worst(BOOK, THREE_OF_THEM, 0, clear, near), is_right, near)
        self.assertIs(shows_worst(BOOK, THREE_OF_THEM, 3, 1, (2,)), False)

    def test_no_clear_hour_and_all_and_one_more(self):
        for hour in range(6):
            left = 6 - hour
            self.assertEqual(surely(BOOK, THREE_OF_THEM, hour, 0), 0)
            self.assertEqual(worst(BOOK, THREE_OF_THEM, hour, 0), ())
            whole = tuple(range(hour, 6))
            self.assertEqual(worst(BOOK, THREE_OF_THEM, hour, left), whole)
            self.assertEqual(surely(BOOK, THREE_OF_THEM, hour, left), doable(BOOK, THREE_OF_THEM, hour, whole))
            for call in (surely, worst):
                self.assertEqual(raised(call, BOOK, THREE_OF_THEM, hour, left + 1), (BadNumber, left + 1))
            self.assertEqual(raised(shows_worst, BOOK, THREE_OF_THEM, hour, left + 1, whole), (BadNumber, left + 1))

    def test_numbers_that_are_none(self):
        for value in odd_values() + spoiled(2) + [2.0]:
            due = None if is_number(value, 3) else (BadNumber, value)
            self.assertEqual(raised(surely, BOOK, THREE_OF_THEM, 3, value), due)
            self.assertEqual(raised(worst, BOOK, THREE_OF_THEM, 3, value), due)
            self.assertEqual(raised(shows_worst, BOOK, THREE_OF_THEM, 3, value, ()), due)


class ArgumentsTest(unittest.TestCase):
    def test_wishes_that_are_none(self):
        for call, rest in CALLS.items():
            for value in odd_values() + [(MOON,) * 25, (MOON, None), (("sun", 0),), (("moon", 6),), ([MOON],),
                                         (("moon", True),), (("moon", -1),), [MOON], (("moon", 0, 0),)]:
                due = None if value in ((), (MOON,)) else (BadWishes, value)
                self.assertEqual(raised(call, BOOK, value, 0, *rest), due)
            self.assertIsNone(raised(call, BOOK, (MOON,) * 24, 0, *rest))

    def test_hours_that_are_none(self):
        for call, rest in CALLS.items():
            for value in odd_values() + [6, 0.0]:
                due = None if type(value) is int and 0 <= value <= 5 else (NoHour, value)
                self.assertEqual(raised(call, BOOK, THREE_OF_THEM, value, *rest), due)

    def test_which_error_stands_first(self):
        for call, rest in CALLS.items():
            wrong = [None] * len(rest)
            self.assertEqual(raised(call, BOOK, None, None, *wrong), (BadWishes, None))
            self.assertEqual(raised(call, BOOK, (), -1, *wrong), (NoHour, -1))
        self.assertEqual(raised(doable, BOOK, (), 0, None), (BadHours, None))
        self.assertEqual(raised(surely, BOOK, (), 0, True), (BadNumber, True))
        self.assertEqual(raised(worst, BOOK, (), 0, "1"), (BadNumber, "1"))
        self.assertEqual(raised(shows_worst, BOOK, (), 0, 7, None), (BadNumber, 7))
        self.assertIs(shows_worst(BOOK, (), 0, 6, None), False)
        self.assertIs(shows_why_enough(BOOK, (), 0, None), False)

    def test_the_very_value(self):
        for value in ([], {}, [MOON], SIX):
            for call, rest in CALLS.items():
                self.assertIs(raised(call, BOOK, value, 0, *rest)[1], value)
                self.assertIs(raised(call, BOOK, (), value, *rest)[1], value)
            self.assertIs(raised(doable, BOOK, (), 0, value)[1], value)
            self.assertIs(raised(surely, BOOK, (), 0, value)[1], value)

    def test_by_name(self):
        named = {"hour": 0, "wishes": THREE_OF_THEM, "book": BOOK}
        self.assertEqual(enough(**named), 4)
        self.assertEqual(why_enough(**named), ("lot", ("moon",)))
        self.assertIs(shows_why_enough(value=("lot", ("moon",)), **named), True)
        self.assertEqual(doable(hours=(3, 4, 5), **named), 2)
        self.assertEqual(surely(clear=3, **named), 2)
        self.assertEqual(worst(clear=3, **named), (3, 4, 5))
        self.assertIs(shows_worst(value=(3, 4, 5), clear=3, **named), True)

    def test_again_and_by_another_book_alike(self):
        for book, _, wishes, hour in small_nights():
            again = Book(book.text)
            for call in (enough, why_enough):
                self.assertTrue(same(call(book, wishes, hour), call(again, wishes, hour)))
            clear = (book.hours - hour) // 2
            self.assertTrue(same(worst(book, wishes, hour, clear), worst(again, wishes, hour, clear)))
            self.assertEqual(again, book)

    def test_derived_classes(self):
        wishes = Row((Row((Line("moon"), Whole(0))), Row((Line("star"), Whole(0)))))
        for told in (enough(BOOK, wishes, Whole(0)), why_enough(BOOK, wishes, Whole(0)),
                     surely(BOOK, wishes, Whole(0), Whole(3)), worst(BOOK, wishes, Whole(1), Whole(3)),
                     doable(BOOK, wishes, Whole(0), Row((Whole(1), 2))), why_enough(BOOK, (), 0)):
            self.assertTrue(is_plain(told), told)
        self.assertIs(shows_worst(BOOK, wishes, 0, 3, Row((Whole(3), 4, 5))), True)


class GreatestTest(unittest.TestCase):
    """Up to 24 wishes, 24 hours and 8 kinds, by another way to count."""

    def check(self, book, kinds, wishes, hour):
        left = book.hours - hour
        many = len(due_of(wishes, hour))
        told = [surely(book, wishes, hour, clear) for clear in range(left + 1)]
        for clear in range(left + 1):
            hours = worst(book, wishes, hour, clear)
            self.assertTrue(are_hours_from(book.hours, hour, hours) and len(hours) == clear)
            self.assertEqual(matched(kinds, wishes, hour, hours), told[clear])
            self.assertEqual(doable(book, wishes, hour, hours), told[clear])
            self.assertIs(shows_worst(book, wishes, hour, clear, hours), True)
        for one, other in zip(told, told[1:]):
            self.assertIn(other - one, (0, 1))
        fewest = enough(book, wishes, hour)
        self.assertEqual(fewest, told.index(many) if many in told else None)
        value = why_enough(book, wishes, hour)
        self.assertTrue(right_why_enough(kinds, book.hours, wishes, hour, fewest, value))
        self.assertIs(shows_why_enough(book, wishes, hour, value), True)
        return told

    def test_many_great_nights(self):
        for number, chance in enumerate(chances(60)):
            book, kinds = some_book(chance)
            wishes, hour = some_wishes(chance, book), chance.choice((0, chance.randrange(book.hours)))
            told = self.check(book, kinds, wishes, hour)
            for _ in range(10):
                clear = chance.randint(0, book.hours - hour)
                lot = tuple(sorted(chance.sample(range(hour, book.hours), clear)))
                done = doable(book, wishes, hour, lot)
                self.assertTrue(same(done, matched(kinds, wishes, hour, lot)))
                self.assertGreaterEqual(done, told[clear])

    def test_eight_kinds_at_all_hours(self):
        self.assertEqual([enough(FULL, ALL_KINDS * many, 0) for many in (1, 2, 3)], [8, 16, 24])
        self.assertIsNone(enough(FULL, ALL_KINDS * 3, 1))
        self.assertEqual(enough(FULL, (("a", 0),) * 24, 0), 24)
        self.check(FULL, kinds_of(FULL), ALL_KINDS * 3, 0)

    def test_eight_kinds_at_hours_of_their_own(self):
        kinds = {name: ((1, 1), tuple(range(at, 24, 8))) for at, name in enumerate("abcdefgh")}
        book = book_of(24, 1, kinds)
        self.assertEqual(enough(book, ALL_KINDS * 3, 0), 24)
        self.assertEqual(enough(book, ALL_KINDS, 0), 22)
        self.assertEqual([surely(book, ALL_KINDS, 0, clear) for clear in (3, 4, 21, 22)], [1, 2, 7, 8])
        self.check(book, kinds, ALL_KINDS * 2, 0)

    def test_hours_within_hours(self):
        kinds = {name: ((1, 1), tuple(range(3 * at, 24))) for at, name in enumerate("abcdefgh")}
        book = book_of(24, 1, kinds)
        for hour in (0, 1, 12, 21, 23):
            self.check(book, kinds, ALL_KINDS * 3, hour)

    def test_one_hour(self):
        self.assertEqual([enough(ONE, (("a", 0),) * many, 0) for many in range(3)], [0, 1, None])
        self.assertEqual([surely(ONE, (("a", 0),) * 2, 0, clear) for clear in (0, 1)], [0, 1])


class ForAllTest(unittest.TestCase):
    """The sentences in bold, and those below the rows."""

    def test_lots_of_kinds_tell_enough_and_surely(self):
        for book, kinds, wishes, hour in small_nights():
            left, due = book.hours - hour, [kind for kind, came in wishes if came <= hour]
            lots = []
            for lot in lots_of_kinds(kinds):
                has = len([at for at in range(hour, book.hours) if any(at in kinds[kind][1] for kind in lot)])
                lots.append((len([kind for kind in due if kind in lot]), has))
            for clear in range(left + 1):
                are_enough = all(clear >= left - has + many for many, has in lots if many)
                self.assertEqual(are_enough, least_due(kinds, book.hours, wishes, hour, clear) == len(due))
                least = min(len(due) - many + max(0, clear - (left - has)) for many, has in lots)
                self.assertEqual(surely(book, wishes, hour, clear), least)

    def test_where_enough_is_a_number_surely_is_all(self):
        for book, _, wishes, hour in small_nights():
            many, told = len(due_of(wishes, hour)), enough(book, wishes, hour)
            for clear in range(book.hours - hour + 1):
                is_all = surely(book, wishes, hour, clear) == many
                self.assertEqual(is_all, told is not None and clear >= told)


if __name__ == "__main__":
    unittest.main()
