"""The whole program: all sections with one book, and what section 2 promises of every call."""

import copy
import itertools
import unittest

from tests.samples import SIX, THREE, is_plain, nested, odd_values, raised, same
from wheneverclear import errors
from wheneverclear.bench import Bench
from wheneverclear.best import best, best_worth, counts, shows_best
from wheneverclear.books import Book, hours_of, later, up, with_kind, without, worth
from wheneverclear.choosers import Chooser, beaten, led, shows_beaten
from wheneverclear.desk import Desk
from wheneverclear.enough import doable, enough, shows_why_enough, shows_worst, surely, why_enough, worst
from wheneverclear.errors import BadWeather, NightError
from wheneverclear.games import loss, lost_by, plan_of, shows_plan, shows_storm, storm_of
from wheneverclear.journals import journal, read_journal
from wheneverclear.nights import cut, fits, is_lesser, open_at, worth_of
from wheneverclear.observatory import Night
from wheneverclear.parts import alike, bars, fewest_left, heals, is_part, parts, shows_fewest_left
from wheneverclear.quarrels import agrees, is_ahead, quarrels, shows_agrees
from wheneverclear.rule import chosen, night, worth_had

# comet and moon quarrel at 0: moon is worth less, but each has a later hour of its own.
TEXT = "book 4 2\nkind comet 5/2 0 3\nkind moon 2 0-2\nkind star 1 0-3"
BOOK = Book(TEXT)
WEATHER, WISHES = (1, 0, 1, 1), (("comet", 0), ("moon", 0), ("star", 1), ("moon", 2))
ROWS = "chooser\nhour 0 moon comet star\nhour 1 moon star\nhour 2 star moon\nhour 3 star comet"

# Each function that a book, chooser or bench is the first argument of, and further arguments that are right.
CALLS = {
    worth: ("comet",), hours_of: ("moon",), up: (2,), later: ("star", 1), without: ("moon",),
    with_kind: ("dim", (3, 4), (1, 3)),
    fits: (WEATHER, WISHES, ((0, 1),)), worth_of: (WISHES, ((0, 1),)), open_at: (WISHES, ((0, 1),), 2),
    is_lesser: (WEATHER, (1, 1, 1, 1)), cut: (WEATHER, 2),
    is_ahead: ("comet", "star", 3), quarrels: (), agrees: (), shows_agrees: (("agrees", ()),),
    chosen: (0, ("star", "comet", "moon"), 2), night: (WEATHER, WISHES), worth_had: (WEATHER, WISHES),
    best: (WEATHER, WISHES), best_worth: (WEATHER, WISHES), counts: (WEATHER, WISHES),
    shows_best: (WEATHER, WISHES, best(BOOK, WEATHER, WISHES)),
    led: (WEATHER, WISHES), beaten: (), shows_beaten: (("never",),),
    enough: (WISHES, 1), why_enough: (WISHES, 1), shows_why_enough: (WISHES, 1, ("lot", ("moon",))),
    doable: (WISHES, 1, (2, 3)), surely: (WISHES, 1, 2), worst: (WISHES, 1, 2), shows_worst: (WISHES, 1, 2, (2, 3)),
    loss: (("comet", "moon"),), plan_of: (("comet", "moon"),),
    shows_plan: (("comet", "moon"), plan_of(BOOK, ("comet", "moon"))), storm_of: (("comet", "moon"),),
    shows_storm: (("comet", "moon"), storm_of(BOOK, ("comet", "moon"))),
    lost_by: (("comet", "moon"), plan_of(BOOK, ("comet", "moon"))),
    is_part: (("comet", "star"),), parts: (), fewest_left: (), shows_fewest_left: (("moon",),), heals: ("star",),
    bars: ("comet", "moon"), alike: ("comet", "moon"),
}


def first_of(call):
    """What a function is asked of: the book, or a chooser for it."""
    return Chooser(BOOK, ROWS) if call in (led, beaten, shows_beaten) else BOOK


def named(call):
    """The names of a function's parameters."""
    return call.__code__.co_varnames[:call.__code__.co_argcount]


def objects():
    """Objects of the program's classes."""
    return [BOOK, Chooser(BOOK, ROWS), Night(BOOK), Bench(TEXT), Desk("bench\n" + TEXT)]


def any_values():
    """Values of any kind, objects of the classes among them, also in tuples."""
    made = objects()
    inside = [(one,) for one in made] + [(one, one) for one in made] + [("lot", one) for one in made]
    rest = [tuple(made), nested(29, made[2]), [made], {"bench": made[3]}, ("never", made[4])]
    return odd_values() + made + inside + rest


class ThroughAllSectionsTest(unittest.TestCase):
    def test_one_book(self):
        # Books and nights.
        self.assertEqual([up(BOOK, 0), later(BOOK, "comet", 0), worth(BOOK, "comet")],
                         [("comet", "moon", "star"), (3,), (5, 2)])
        self.assertEqual(open_at(BOOK, WISHES, ((0, 0),), 1), (1, 2))
        self.assertEqual(fits(BOOK, WEATHER, WISHES, ((0, 1), (2, 3), (3, 0))), ("fits",))
        # Quarrels.
        self.assertEqual(quarrels(BOOK), (("comet", "moon", 0),))
        told = agrees(BOOK)
        self.assertEqual(told[0], "quarrels")
        self.assertIs(shows_agrees(BOOK, told), True)
        # With clouds moon has less; with hour 3 clear alone comet has, as moon is not up then.
        self.assertIs(shows_agrees(BOOK, ("quarrels", "moon", "comet", 0, (0, 0, 0), (0, 0, 1))), True)
        self.assertIs(shows_agrees(BOOK, ("quarrels", "moon", "comet", 0, (0, 0, 0), (1, 0, 0))), False)
        # The rule looks at comet first, and so can't do all that could be done.
        self.assertEqual(night(BOOK, WEATHER, WISHES), ((0, 0), (2, 1), (3, 2)))
        self.assertEqual([worth_had(BOOK, WEATHER, WISHES), best_worth(BOOK, WEATHER, WISHES)], [(11, 2), (13, 2)])
        self.assertEqual(counts(BOOK, WEATHER, WISHES), (((5, 2), 1), ((2, 1), 3), ((1, 1), 3)))
        value = best(BOOK, WEATHER, WISHES)
        self.assertIs(shows_best(BOOK, WEATHER, WISHES, value), True)
        # A chooser.
        chooser = Chooser(BOOK, ROWS)
        self.assertEqual(led(chooser, WEATHER, WISHES), ((0, 1), (2, 2), (3, 0)))
        self.assertIs(shows_beaten(chooser, beaten(chooser)), True)
        self.assertIs(shows_beaten(chooser, ("beaten", WEATHER, WISHES)), True)
        # Enough.
        self.assertEqual([enough(BOOK, WISHES, hour) for hour in range(4)], [3, 3, None, None])
        self.assertEqual([enough(BOOK, WISHES[:1], hour) for hour in range(4)], [3, 3, 2, 1])
        self.assertEqual(why_enough(BOOK, WISHES[:1], 2), ("lot", ("comet",)))
        self.assertEqual([surely(BOOK, WISHES, 0, clear) for clear in range(5)], [0, 1, 1, 2, 2])
        self.assertIs(shows_worst(BOOK, WISHES, 0, 2, worst(BOOK, WISHES, 0, 2)), True)
        self.assertIs(shows_worst(BOOK, WISHES, 0, 2, (1, 2)), True)
        # Losses.
        kinds = ("comet", "moon")
        self.assertEqual([loss(BOOK, kinds), loss(BOOK, ("star",) + kinds), loss(BOOK, ("comet", "star"))],
                         [(2, 1), (1, 1), (0, 1)])
        self.assertEqual(lost_by(BOOK, kinds, plan_of(BOOK, kinds)), (2, 1))
        self.assertIs(shows_storm(BOOK, kinds, storm_of(BOOK, kinds)), True)
        # Parts.
        self.assertEqual(parts(BOOK), (("comet", "star"), ("moon", "star")))
        self.assertIs(shows_fewest_left(BOOK, fewest_left(BOOK)), True)
        self.assertEqual([heals(BOOK, "moon"), heals(BOOK, "star"), bars(BOOK, "comet", "moon")],
                         [("none",), ("span", None, (2, 1)), ("hours", 0)])
        self.by_an_observatory()
        self.by_a_bench()

    def by_an_observatory(self):
        led_by_hours = Night(BOOK)
        told = [led_by_hours.wish("comet"), led_by_hours.wish("moon"), led_by_hours.at_least((1, 0, 1, 1))]
        self.assertEqual(told, [0, 1, (9, 2)])
        told = [led_by_hours.hour(1), led_by_hours.wish("star"), led_by_hours.hour(0), led_by_hours.wish("moon"),
                led_by_hours.hour(1), led_by_hours.lost(), led_by_hours.hour(1)]
        self.assertEqual(told, [(0,), 2, (), 3, (1,), (0, 1), (2,)])
        self.assertEqual([led_by_hours.wishes, led_by_hours.weather], [WISHES, WEATHER])
        self.assertEqual([led_by_hours.worth, led_by_hours.lost()], [(11, 2), (1, 1)])

    def by_a_bench(self):
        bench = Bench(TEXT)
        without_moon = bench.tried(lambda held: [held.cut("moon"), held.verdict, held.book])
        self.assertEqual(without_moon, [None, "agrees", without(BOOK, "moon")])
        with bench.trial() as held:
            held.cut("comet")
            held.add("comet", (5, 2), (0,))
            held.keep()
        self.assertEqual([bench.verdict, bench.done], ["agrees", 2])
        desk = Desk(journal(bench))
        self.assertTrue(desk.bench == bench)
        lines = ("verdict", "up 3", "night 1 0 1 1 ; comet 0 moon 0 star 1 moon 2", "undo", "undo", "verdict",
                 "night 1 0 1 1 ; comet 0 moon 0 star 1 moon 2")
        self.assertEqual([desk.say(line) for line in lines],
                         ["agrees", "star", "11/2", "ok", "ok", "quarrels", "11/2"])
        self.assertEqual(desk.bench.book, BOOK)
        self.assertEqual(read_journal(journal(desk.bench)).book, BOOK)


class EveryCallTest(unittest.TestCase):
    def test_by_position_and_by_name_and_again(self):
        for call, rest in CALLS.items():
            told = call(first_of(call), *rest)
            again = call(first_of(call), *rest)
            by_name = call(**dict(zip(named(call), (first_of(call), *rest))))
            self.assertEqual(len(named(call)), len(rest) + 1)
            if isinstance(told, Book):
                self.assertTrue(told == again == by_name)
            else:
                self.assertTrue(is_plain(told) and same(told, again) and same(told, by_name), call.__name__)

    def test_any_value_in_each_place(self):
        for call, rest in CALLS.items():
            for place, value in itertools.product(range(len(rest)), any_values()):
                given = rest[:place] + (value,) + rest[place + 1:]
                told = raised(call, first_of(call), *given)
                by_name = raised(call, **dict(zip(named(call), (first_of(call), *given))))
                if told is None:
                    self.assertIsNone(by_name)
                    answer = call(first_of(call), *given)
                    self.assertTrue(is_plain(answer) or isinstance(answer, Book))
                else:
                    self.assertTrue(issubclass(told[0], NightError))
                    self.assertIs(told[0], by_name[0])
                    self.assertTrue(told[1] is by_name[1] or told[1] == by_name[1])

    def test_any_value_in_all_places(self):
        for call, rest in CALLS.items():
            for value in any_values():
                told = raised(call, first_of(call), *[value] * len(rest))
                if told is not None:
                    self.assertTrue(issubclass(told[0], NightError))

    def test_what_shows_answers_any_value_with_a_bool(self):
        shows = [call for call in CALLS if call.__name__.startswith("shows_")]
        self.assertEqual(len(shows), 8)
        for call in shows:
            for value in any_values():
                self.assertIs(type(call(first_of(call), *CALLS[call][:-1], value)), bool)

    def test_the_very_value_stands_in_the_error(self):
        for call, rest in CALLS.items():
            if not call.__name__.startswith("shows_"):
                for place in range(len(rest)):
                    value = ["wrong"]
                    told = raised(call, first_of(call), *rest[:place], value, *rest[place + 1:])
                    self.assertIs(told[1], value)

    def test_errors_stand_in_the_sequence_of_the_arguments(self):
        for call, rest in CALLS.items():
            if call.__name__.startswith("shows_"):
                rest = rest[:-1]
            for first, other in itertools.combinations(range(len(rest)), 2):
                # The first wrong argument is told, whatever is wrong behind it.
                one, two = ["one"], ["two"]
                given = list(CALLS[call])
                given[first], given[other] = one, two
                if call not in (is_ahead, chosen):
                    self.assertIs(raised(call, first_of(call), *given)[1], one, call.__name__)

    def test_nothing_is_changed(self):
        for call, rest in CALLS.items():
            asked = first_of(call)
            before = {name: value for name, value in vars(asked).items()}
            kept = copy.deepcopy(rest)
            call(asked, *rest)
            for value in (["wrong"], {"wrong": []}):
                spoiled = copy.deepcopy(value)
                for place in range(len(rest)):
                    raised(call, asked, *rest[:place], value, *rest[place + 1:])
                self.assertEqual(value, spoiled)
            self.assertTrue(same(rest, kept))
            self.assertEqual(vars(asked), before)

    def test_with_another_book(self):
        for call, rest in CALLS.items():
            for book in (SIX, THREE):
                asked = book if first_of(call) is BOOK else None
                if asked is not None:
                    told = raised(call, asked, *rest)
                    self.assertTrue(told is None or issubclass(told[0], NightError))
        self.assertEqual(raised(night, THREE, WEATHER, WISHES), (BadWeather, WEATHER))


class EveryObjectTest(unittest.TestCase):
    def test_methods_of_which_nothing_else_is_told_return_none(self):
        bench, hours = Bench(TEXT), Night(BOOK)
        hours.wish("moon")
        told = [bench.add("dim", (1, 1), (0,)), bench.cut("dim"), bench.price("moon", (1, 1)), bench.undo(),
                bench.redo(), hours.undo()]
        with bench.trial() as held:
            told.append(held.keep())
        self.assertEqual(told, [None] * 7)

    def test_any_value_in_each_method(self):
        for value in any_values():
            for make, ask in (
                (lambda: Bench(TEXT), lambda one: one.add(value, (1, 1), (0,))),
                (lambda: Bench(TEXT), lambda one: one.cut(value)),
                (lambda: Bench(TEXT), lambda one: one.add("dim", value, (0,))),
                (lambda: Bench(TEXT), lambda one: one.add("dim", (1, 1), value)),
                (lambda: Bench(TEXT), lambda one: one.price(value, (1, 1))),
                (lambda: Bench(TEXT), lambda one: one.price("moon", value)),
                (lambda: Night(BOOK), lambda one: one.wish(value)), (lambda: Night(BOOK), lambda one: one.hour(value)),
                (lambda: Night(BOOK), lambda one: one.at_least(value)),
                (lambda: Desk("bench\n" + TEXT), lambda one: one.say(value)),
                (lambda: None, lambda one: Book(value)), (lambda: None, lambda one: Bench(value)),
                (lambda: None, lambda one: Chooser(BOOK, value)), (lambda: None, lambda one: read_journal(value)),
                (lambda: None, lambda one: Desk(value)),
            ):
                told = raised(ask, make())
                self.assertTrue(told is None or issubclass(told[0], NightError))

    def test_objects_are_equal_to_nothing_of_another_class(self):
        made = objects()
        for one, other in itertools.permutations(made, 2):
            self.assertIs(one == other, False)
            self.assertIs(one != other, True)

    def test_each_error_is_raised_where_it_is_due(self):
        over = Night(Book("book 1 1\nkind a 1 0"))
        over.hour(0)
        full = Book("book 1 1" + "".join(f"\nkind {name} 1 0" for name in "abcdefgh"))
        due = (
            ("BadBook", Book, ("book 1",), 1), ("NoKind", worth, (BOOK, "sun"), "sun"), ("NoHour", up, (BOOK, 4), 4),
            ("Last", without, (over.book, "a"), None), ("BadName", with_kind, (BOOK, "A", 0, 0), "A"),
            ("There", with_kind, (BOOK, "moon", 0, 0), "moon"), ("BadWorth", with_kind, (BOOK, "dim", 0, 0), 0),
            ("BadHours", with_kind, (BOOK, "dim", (1, 1), 0), 0), ("BadWeather", cut, (BOOK, (), 0), ()),
            ("TooMany", with_kind, (full, "i", (1, 1), (0,)), 9),
            ("BadWishes", enough, (BOOK, 1, 0), 1), ("BadLooks", worth_of, (BOOK, (), 1), 1),
            ("NotUp", is_ahead, (BOOK, "star", "moon", 3), "moon"), ("BadKinds", loss, (BOOK, 1), 1),
            ("BadClear", Night(BOOK).hour, (3,), 3), ("BadChooser", Chooser, (BOOK, "chooser"), 2),
            ("BadNumber", surely, (BOOK, (), 0, 5), 5), ("TooLong", loss, (Book("book 7 1\nkind a 1 0"), ()), 7),
            ("BadPlan", lost_by, (BOOK, (), 1), 1), ("Same", bars, (BOOK, "star", "star"), "star"),
            ("Over", over.hour, (0,), None), ("NothingToUndo", Bench(TEXT).undo, (), None),
            ("BadRest", over.at_least, (0,), 0), ("NothingToRedo", Bench(TEXT).redo, (), None),
            ("NoTrial", Bench(TEXT).keep, (), None), ("BadJournal", read_journal, (TEXT,), 1),
            ("BadWords", Desk("bench\n" + TEXT).say, ("hello",), "hello"),
        )
        names = {name for name, one in vars(errors).items() if isinstance(one, type) and issubclass(one, NightError)}
        self.assertEqual({"NightError", *(name for name, _, _, _ in due)}, names)
        for name, call, values, value in due:
            self.assertEqual(raised(call, *values), (getattr(errors, name), value))


if __name__ == "__main__":
    unittest.main()
