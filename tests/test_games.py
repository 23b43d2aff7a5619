"""What must be lost: games, plans and storms (section 11)."""

import itertools
import unittest
from fractions import Fraction

from tests.oracles import against, all_plans, all_storms, choices_at, do_quarrel, game, is_number, kinds_of
from tests.oracles import least_lost, most_lost, pair
from tests.samples import FULL, ONE, Line, Row, Whole, book_of, calm_book, chances, is_plain, nested, odd_values
from tests.samples import raised, same, some_book, spoiled
from wheneverclear.books import Book
from wheneverclear.errors import BadKinds, BadPlan, TooLong
from wheneverclear.games import loss, lost_by, plan_of, shows_plan, shows_storm, storm_of
from wheneverclear.quarrels import quarrels

CALM = Book("book 2 1\nkind a 3 0\nkind b 2 0-1")
TORN = Book("book 2 1\nkind a 2 0\nkind b 3 0-1")
COVERED = Book("book 2 1\nkind a 3 0-1\nkind b 2 0\nkind c 5 0")
GAP = Book("book 3 2\nkind a 1 0\nkind b 2 2")
LONG = Book("book 6 4\nkind a 3 0-5\nkind b 5/3 0-4\nkind c 7/11 0-3 5\nkind d 2 1-5")
SEVEN = Book("book 7 1\nkind a 1 0")
LAST = ((None, (), ()), (0, (), ()), (1, (), ()))

CALLS = {loss: (), plan_of: (), shows_plan: ((),), storm_of: (), shows_storm: ((),), lost_by: ((),)}


def some_game(chance, most_hours, most_kinds):
    """(book, its kinds, the kinds of the wishes)."""
    book, kinds = some_book(chance, most_hours, 4)
    many = chance.randint(0, most_kinds)
    return book, kinds, tuple(chance.choice(book.names) for _ in range(many))


def small_games():
    """Games of up to three hours, and of so few wishes that all plans and storms can be tried."""
    for number, chance in enumerate(chances(60)):
        yield some_game(chance, *((3, 1), (2, 2), (1, 4), (2, 2))[number % 4])
    yield TORN, kinds_of(TORN), ("a", "b")
    yield COVERED, kinds_of(COVERED), ("a", "b", "c")
    for own, other in itertools.product(((0,), (0, 1), (1, 2), (0, 2), (0, 1, 2)), repeat=2):
        kinds = {"a": ((2, 1), own), "b": ((3, 1), other)}
        yield book_of(3, 1, kinds), kinds, ("a", "b")


def is_choice(kinds, wished, hour, done, value):
    """Whether a value is a choice, True being no integer."""
    return type(value) in (int, type(None)) and value in choices_at(kinds, wished, hour, done)


def is_plan(kinds, hours, wished, value, hour=0, done=()):
    """Whether a value is a plan from an hour on, by the document's words."""
    if hour == hours or type(value) is not tuple or len(value) != 3:
        return hour == hours and type(value) is tuple and not value
    choice, clear, cloudy = value
    if not is_choice(kinds, wished, hour, done, choice):
        return False
    behind = done if choice is None else done + (choice,)
    return (
        is_plan(kinds, hours, wished, clear, hour + 1, behind)
        and is_plan(kinds, hours, wished, cloudy, hour + 1, done)
    )


def is_storm(kinds, hours, wished, value, hour=0, done=()):
    """Whether a value is a storm from an hour on, by the document's words."""
    if hour == hours or type(value) is not tuple or len(value) != 2 or not is_number(value[0], 1):
        return hour == hours and type(value) is tuple and not value
    if value[0] == 0:
        return is_storm(kinds, hours, wished, value[1], hour + 1, done)
    choices = choices_at(kinds, wished, hour, done)
    if type(value[1]) is not tuple or any(type(part) is not tuple or len(part) != 2 for part in value[1]):
        return False
    if not same(tuple(part[0] for part in value[1]), tuple(choices)):
        return False
    return all(
        is_storm(kinds, hours, wished, rest, hour + 1, done if choice is None else done + (choice,))
        for choice, rest in value[1]
    )


class LossTest(unittest.TestCase):
    def test_of_the_document(self):
        self.assertEqual([loss(CALM, ("a", "b")), loss(CALM, ("b", "b", "a"))], [(0, 1), (0, 1)])
        told = [loss(TORN, kinds) for kinds in (("a", "b"), ("b",), ("a", "a", "b"))]
        self.assertEqual(told, [(1, 1), (0, 1), (1, 1)])

    def test_no_kinds(self):
        for book in (CALM, TORN, GAP, ONE, LONG):
            self.assertEqual(loss(book, ()), (0, 1))
            self.assertEqual(lost_by(book, (), plan_of(book, ())), (0, 1))
            self.assertIs(shows_storm(book, (), storm_of(book, ())), True)

    def test_one_kind_several_times(self):
        for many in range(5):
            for book, kind in ((TORN, "b"), (LONG, "c"), (GAP, "a")):
                self.assertEqual(loss(book, (kind,) * many), (0, 1))

    def test_a_third_wish_covers_a_quarrel_up(self):
        self.assertEqual(quarrels(COVERED), (("a", "b", 0),))
        told = [loss(COVERED, kinds) for kinds in (("a", "b"), ("a", "b", "c"), ("c", "b", "a"), ("a", "c"))]
        self.assertEqual(told, [(1, 1), (0, 1), (0, 1), (0, 1)])

    def test_fractions(self):
        book = Book("book 2 1\nkind a 2/3 0\nkind b 3/4 0-1")
        self.assertEqual(loss(book, ("a", "b")), (1, 12))
        self.assertEqual(lost_by(book, ("a", "b"), (1, (None, (), ()), (1, (), ()))), (2, 3))
        self.assertEqual(lost_by(book, ("b",), ((None,) + LAST[:1] * 2)), (3, 4))

    def test_telescopes_do_not_count(self):
        for telescopes in (1, 2, 4):
            book = Book(f"book 2 {telescopes}\nkind a 2 0\nkind b 3 0-1")
            self.assertEqual([loss(book, ("a", "b")), loss(book, ("a", "a", "b"))], [(1, 1), (1, 1)])

    def test_each_plan_that_is_tried(self):
        greatest = 0
        for book, kinds, wished in small_games():
            told = loss(book, wished)
            self.assertTrue(is_plain(told))
            plans = all_plans(kinds, book.hours, wished)
            worst = [most_lost(kinds, book.hours, wished, plan) for plan in plans[:400]]
            for plan, most in zip(plans[:400], worst):
                self.assertTrue(same(lost_by(book, wished, plan), pair(most)))
                self.assertIs(shows_plan(book, wished, plan), pair(most) == told)
                self.assertGreaterEqual(most, Fraction(*told))
            if len(plans) <= 400:
                self.assertEqual(pair(min(worst)), told)
            greatest = max(greatest, len(plans))
        self.assertGreater(greatest, 400)

    def test_all_plans_and_storms_of_quarrels_of_three_hours(self):
        for own, other in (((0, 1), (0, 2)), ((0, 2), (0, 1)), ((0, 1, 2), (0, 1)), ((1,), (1, 2))):
            kinds = {"a": ((2, 1), own), "b": ((3, 1), other)}
            told = Fraction(*loss(book_of(3, 1, kinds), ("a", "b")))
            plans, storms = all_plans(kinds, 3, ("a", "b")), all_storms(kinds, 3, ("a", "b"))
            self.assertEqual(min(most_lost(kinds, 3, ("a", "b"), plan) for plan in plans), told)
            forced = [least_lost(kinds, ("a", "b"), storm) for storm in storms]
            self.assertEqual(max(forced), told)
            for storm, least in zip(storms, forced):
                self.assertIs(shows_storm(book_of(3, 1, kinds), ("a", "b"), storm), least == told)

    def test_each_storm_that_is_tried(self):
        for book, kinds, wished in small_games():
            if book.hours <= 2:
                told = loss(book, wished)
                storms = all_storms(kinds, book.hours, wished)
                forced = [least_lost(kinds, wished, storm) for storm in storms]
                self.assertEqual(pair(max(forced)), told)
                for storm, least in list(zip(storms, forced))[:200]:
                    self.assertIs(shows_storm(book, wished, storm), pair(least) == told)

    def test_games_of_up_to_six_hours(self):
        seen = 0
        for chance in chances(150):
            book, kinds, wished = some_game(chance, 6, 4)
            told = loss(book, wished)
            self.assertTrue(same(told, pair(game(kinds, book.hours, wished))))
            seen += told > (0, 1)
        self.assertGreater(seen, 5)


class PlayTest(unittest.TestCase):
    """The plan and the storm, told and played against each other."""

    def check(self, book, kinds, wished):
        least = loss(book, wished)
        plan, storm = plan_of(book, wished), storm_of(book, wished)
        self.assertTrue(is_plain(plan) and is_plain(storm))
        self.assertTrue(is_plan(kinds, book.hours, wished, plan))
        self.assertTrue(is_storm(kinds, book.hours, wished, storm))
        self.assertEqual(pair(most_lost(kinds, book.hours, wished, plan)), least)
        self.assertEqual(pair(least_lost(kinds, wished, storm)), least)
        self.assertEqual(pair(against(kinds, wished, plan, storm)), least)
        self.assertEqual(lost_by(book, wished, plan), least)
        self.assertIs(shows_plan(book, wished, plan), True)
        self.assertIs(shows_storm(book, wished, storm), True)
        self.assertTrue(same(plan, plan_of(Book(book.text), wished)))
        self.assertTrue(same(storm, storm_of(Book(book.text), wished)))

    def test_small_games(self):
        for book, kinds, wished in small_games():
            self.check(book, kinds, wished)

    def test_games_of_up_to_six_hours(self):
        for chance in chances(50):
            self.check(*some_game(chance, 6, 4))

    def test_the_greatest_games(self):
        for wished in (("a", "b", "c", "d"), ("a",) * 4, ("b", "c", "b", "c"), ("d", "c", "b", "a")):
            self.check(LONG, kinds_of(LONG), wished)

    def test_an_hour_at_which_no_kind_is_up(self):
        self.assertEqual(plan_of(GAP, ("a", "b"))[1][0], None)
        self.check(GAP, kinds_of(GAP), ("a", "b"))
        self.check(GAP, kinds_of(GAP), ("b", "b", "a"))


class ShowsPlanTest(unittest.TestCase):
    def test_of_the_document(self):
        first = (0, (1, (), ()), (1, (), ()))
        self.assertIs(shows_plan(TORN, ("a", "b"), first), True)
        for plan, most in (((1, LAST[0], LAST[2]), (2, 1)), ((None, LAST[2], LAST[2]), (3, 1))):
            self.assertEqual(lost_by(TORN, ("a", "b"), plan), most)
            self.assertIs(shows_plan(TORN, ("a", "b"), plan), False)
        self.assertIs(shows_plan(CALM, ("a",), LAST[0]), False)

    def test_choices_that_cannot_stand(self):
        # a is not up at 1; 1 is done behind it; there is no wish 2; a choice is an integer, or None.
        for choice in (0, 2, -1, True, False, "1", "b", (1,), [], 1.0):
            for plan in ((0, (choice, (), ()), LAST[2]), (0, LAST[2], (choice, (), ()))):
                self.assertIs(shows_plan(TORN, ("a", "b"), plan), False)
                self.assertEqual(raised(lost_by, TORN, ("a", "b"), plan), (BadPlan, plan))
        again = (1, (1, (), ()), LAST[0])
        self.assertEqual(raised(lost_by, TORN, ("a", "b"), again), (BadPlan, again))
        other = (1, LAST[0], (1, (), ()))
        self.assertEqual(lost_by(TORN, ("a", "b"), other), (2, 1))

    def test_plans_near_right_ones(self):
        kinds = kinds_of(TORN)
        for wished in (("a", "b"), ("b",), ()):
            value = plan_of(TORN, wished)
            for near in spoiled(value) + odd_values():
                is_one = is_plan(kinds, 2, wished, near)
                most = pair(most_lost(kinds, 2, wished, near)) if is_one else None
                self.assertIs(shows_plan(TORN, wished, near), is_one and most == loss(TORN, wished), near)
                due = None if is_one else (BadPlan, near)
                self.assertEqual(raised(lost_by, TORN, wished, near), due)

    def test_plans_too_short_and_too_long(self):
        deep = LAST[0]
        for _ in range(8):
            deep = (None, deep, deep)
        for plan in ((), LAST[0], (None, LAST[0], ()), (None, (), LAST[0]), deep, nested(30), (None, LAST[0])):
            self.assertIs(shows_plan(CALM, ("a", "b"), plan), False)
            self.assertEqual(raised(lost_by, CALM, ("a", "b"), plan), (BadPlan, plan))

    def test_parts_of_plans_that_were_told(self):
        plan = plan_of(LONG, ("a", "b", "c", "d"))
        for part in plan[1:] + (plan[1][1], (plan,), plan + plan, (plan[0], plan[2], plan[2], None)):
            self.assertIs(shows_plan(LONG, ("a", "b", "c", "d"), part), False)
            self.assertEqual(raised(lost_by, LONG, ("a", "b", "c", "d"), part), (BadPlan, part))
        same_both = (None, plan[2], plan[2])
        self.assertIs(is_plan(kinds_of(LONG), 6, ("a", "b", "c", "d"), same_both), True)
        most = pair(most_lost(kinds_of(LONG), 6, ("a", "b", "c", "d"), same_both))
        self.assertEqual(lost_by(LONG, ("a", "b", "c", "d"), same_both), most)


class ShowsStormTest(unittest.TestCase):
    def test_of_the_document(self):
        after = (0, ())
        storm = (1, ((None, after), (0, after), (1, (1, ((None, ()),)))))
        self.assertIs(shows_storm(TORN, ("a", "b"), storm), True)
        self.assertIs(shows_storm(TORN, ("a", "b"), (0, (0, ()))), False)

    def test_storms_near_right_ones(self):
        kinds = kinds_of(TORN)
        for wished in (("a", "b"), ("b",), ()):
            value = storm_of(TORN, wished)
            for near in spoiled(value) + odd_values():
                is_right = is_storm(kinds, 2, wished, near) and (
                    pair(least_lost(kinds, wished, near)) == loss(TORN, wished)
                )
                self.assertIs(shows_storm(TORN, wished, near), is_right, near)

    def test_answers(self):
        after = (0, ())
        right = ((None, after), (0, after), (1, (1, ((None, ()),))))
        self.assertIs(shows_storm(TORN, ("a", "b"), (1, right)), True)
        for answers in (right[1:], right[:2], right[::-1], right + right[2:], (right[0], right[2], right[1]),
                        ((None, after), (False, after), right[2]), (right[0], right[1], (True, right[2][1])),
                        list(right), (list(right[0]),) + right[1:], ((None, after, ()),) + right[1:],
                        right + ((2, after),), dict(right), None, (), "abc"):
            self.assertIs(shows_storm(TORN, ("a", "b"), (1, answers)), False, answers)

    def test_signs_of_hours(self):
        after = (0, ())
        for clear in (True, False, 2, -1, None, "0", (0,)):
            self.assertIs(shows_storm(TORN, (), (clear, after)), False)
            self.assertIs(shows_storm(TORN, (), (clear, ((None, after),))), False)
        for storm in ((0, after), (1, ((None, after),)), (0, (1, ((None, ()),)))):
            self.assertIs(shows_storm(TORN, (), storm), True)
        for storm in ((), after, (0, (0, after)), (0, (0, None)), (1, after), (0,), (0, after, ())):
            self.assertIs(shows_storm(TORN, (), storm), False)


class ArgumentsTest(unittest.TestCase):
    def test_books_that_are_too_long(self):
        for call, rest in CALLS.items():
            self.assertEqual(raised(call, SEVEN, (), *rest), (TooLong, 7))
            self.assertEqual(raised(call, FULL, None, *rest), (TooLong, 24))
            for hours in range(1, 7):
                book = Book(f"book {hours} 1\nkind a 1 0")
                self.assertNotEqual((raised(call, book, ("a",), *rest) or [None])[0], TooLong)

    def test_kinds_that_are_none(self):
        for call, rest in CALLS.items():
            for value in odd_values() + [("a",) * 5, ("a", "c"), ["a"], ("a", None), ("A",), "ab", ("a", ("b",)),
                                         (("a", 0),), ("a", True), [], {"a": 1}, {}]:
                is_right = type(value) is tuple and all(type(part) is str and part in "ab" for part in value)
                if not is_right or len(value) > 4:
                    self.assertEqual(raised(call, TORN, value, *rest), (BadKinds, value))
            for many in range(5):
                told = raised(call, TORN, ("a",) * many, *rest)
                self.assertIn(told, (None, (BadPlan, ())))

    def test_which_error_stands_first(self):
        self.assertEqual(raised(lost_by, SEVEN, None, None), (TooLong, 7))
        self.assertEqual(raised(lost_by, TORN, ("a",) * 5, None), (BadKinds, ("a",) * 5))
        self.assertEqual(raised(lost_by, TORN, ("a",), None), (BadPlan, None))
        self.assertEqual(raised(shows_plan, SEVEN, (), ()), (TooLong, 7))
        self.assertEqual(raised(shows_storm, TORN, "a", ()), (BadKinds, "a"))

    def test_the_very_value(self):
        for value in ([], {}, ["a"], TORN):
            self.assertIs(raised(loss, TORN, value)[1], value)
            self.assertIs(raised(lost_by, TORN, (), value)[1], value)

    def test_by_name(self):
        plan = (0, LAST[2], LAST[2])
        self.assertEqual(loss(kinds=("a", "b"), book=TORN), (1, 1))
        self.assertEqual(lost_by(plan=plan, kinds=("a", "b"), book=TORN), (1, 1))
        self.assertIs(shows_plan(value=plan_of(kinds=("a", "b"), book=TORN), kinds=("a", "b"), book=TORN), True)
        self.assertIs(shows_storm(value=storm_of(kinds=("a", "b"), book=TORN), kinds=("a", "b"), book=TORN), True)

    def test_derived_classes(self):
        wished = Row((Line("a"), Line("b")))
        for told in (loss(TORN, wished), plan_of(TORN, wished), storm_of(TORN, wished),
                     lost_by(TORN, wished, Row((Whole(0), LAST[2], Row((Whole(1), (), Row())))))):
            self.assertTrue(is_plain(told))
        self.assertIs(shows_plan(TORN, wished, Row((Whole(0), LAST[2], LAST[2]))), True)


class ForAllTest(unittest.TestCase):
    """The sentences in bold, and those below the rows."""

    def test_nothing_is_lost_where_no_two_quarrel(self):
        for chance in chances(60):
            book, _ = calm_book(chance, 6, 4)
            wished = tuple(chance.choice(book.names) for _ in range(chance.randint(0, 4)))
            self.assertEqual(loss(book, wished), (0, 1))
        for chance in chances(150):
            book, kinds, wished = some_game(chance, 6, 4)
            torn = [(one, other) for one in wished for other in wished for hour in range(book.hours)
                    if do_quarrel(kinds, one, other, hour)]
            if not torn:
                self.assertEqual(loss(book, wished), (0, 1))

    def test_two_that_quarrel_lose_something(self):
        seen = 0
        for chance in chances(100):
            book, _, _ = some_game(chance, 6, 4)
            torn = {(one, other) for one, other, _ in quarrels(book)}
            for one, other in torn:
                self.assertGreater(Fraction(*loss(book, (one, other))), 0)
                self.assertEqual(loss(book, (one, other)), loss(book, (other, one)))
                seen += 1
        self.assertGreater(seen, 50)

    def test_each_sequence_has_the_same_loss(self):
        for chance in chances(40):
            book, _, wished = some_game(chance, 5, 4)
            self.assertEqual({loss(book, lot) for lot in itertools.permutations(wished)}, {loss(book, wished)})

    def test_each_plan_loses_at_least_the_loss(self):
        for chance in chances(60):
            book, kinds, wished = some_game(chance, 6, 4)
            for _ in range(5):
                plan = some_plan(chance, kinds, book.hours, wished)
                most = lost_by(book, wished, plan)
                self.assertEqual(most, pair(most_lost(kinds, book.hours, wished, plan)))
                self.assertGreaterEqual(Fraction(*most), Fraction(*loss(book, wished)))

    def test_books_and_arguments_stay(self):
        text, wished = LONG.text, ("a", "b", "c")
        plan = plan_of(LONG, wished)
        self.assertIs(shows_plan(LONG, wished, plan), True)
        self.assertTrue(same(plan, plan_of(LONG, wished)))
        self.assertEqual((LONG.text, wished), (text, ("a", "b", "c")))


def some_plan(chance, kinds, hours, wished, hour=0, done=()):
    """A plan of any choices."""
    if hour == hours:
        return ()
    choice = chance.choice(choices_at(kinds, wished, hour, done))
    behind = done if choice is None else done + (choice,)
    return (
        choice, some_plan(chance, kinds, hours, wished, hour + 1, behind),
        some_plan(chance, kinds, hours, wished, hour + 1, done),
    )


if __name__ == "__main__":
    unittest.main()
