"""A bench: deeds, what is undone and done again, blocks, copies (section 14)."""

import unittest
from math import gcd

from tests.oracles import all_quarrels
from tests.samples import FULL, SIX, Line, Row, Whole, book_of, chances, is_plain, odd_values, raised, same, some_amount
from tests.samples import some_book, some_hours, some_spans, spoiled
from wheneverclear.bench import Bench
from wheneverclear.books import Book, with_kind, without
from wheneverclear.errors import BadBook, BadHours, BadName, BadWorth, Last, NightError, NoKind, NoTrial, NothingToRedo
from wheneverclear.errors import NothingToUndo, There, TooMany
from wheneverclear.journals import journal
from wheneverclear.quarrels import agrees

TEXT = "book 4 1\nkind a 2 0-1\nkind b 1 0-2"
PRICED = TEXT.replace("b 1", "b 3")


class Broken(Exception):
    """An error of the tests' own."""


def state(bench):
    """All that can be read off a bench."""
    return bench.book.text, bench.done, bench.verdict, journal(bench)


def ways(bench):
    """What a bench is, and what its copies are as all is undone, and as all is done again: the bench stays."""
    told = [state(bench)]
    back, forth = bench.copy(), bench.copy()
    while raised(back.undo) is None:
        told.append(state(back))
    told.append(None)
    while raised(forth.redo) is None:
        told.append(state(forth))
    return told


class Model:
    """A bench told anew: the kinds behind each deed, in lists."""

    def __init__(self, book, kinds):
        self.hours, self.telescopes = book.hours, book.telescopes
        self.steps = [(None, dict(kinds))]
        self.undone = []

    def kinds(self):
        return self.steps[-1][1]

    def text(self, kinds):
        return book_of(self.hours, self.telescopes, kinds).text

    def check(self, test, bench):
        kinds = self.kinds()
        test.assertEqual(bench.book.text, self.text(kinds))
        test.assertEqual(bench.done, len(self.steps) - 1)
        test.assertEqual(bench.verdict, "quarrels" if all_quarrels(kinds, self.hours) else "agrees")
        lines = ["bench", self.text(self.steps[0][1])] + [line for line, _ in self.steps[1:]]
        test.assertEqual(journal(bench), "\n".join(lines))

    def deed(self, line, kinds):
        self.steps.append((line, kinds))
        self.undone = []

    def add(self, name, word, amount, hours):
        kinds = self.kinds()
        if name in kinds:
            return There, name
        if hours[-1] >= self.hours:
            return BadHours, hours
        if len(kinds) == 8:
            return TooMany, 9
        return self.deed(f"add {name} {word} {some_spans(hours)}", {**kinds, name: (amount, hours)})

    def cut(self, kind):
        kinds = self.kinds()
        if kind not in kinds:
            return NoKind, kind
        if len(kinds) == 1:
            return Last, None
        return self.deed(f"cut {kind}", {name: kinds[name] for name in kinds if name != kind})

    def price(self, kind, word, amount):
        kinds = self.kinds()
        if kind not in kinds:
            return NoKind, kind
        return self.deed(f"price {kind} {word}", {**kinds, kind: (amount, kinds[kind][1])})

    def undo(self):
        if len(self.steps) == 1:
            return NothingToUndo, None
        self.undone.append(self.steps.pop())
        return None

    def redo(self):
        if not self.undone:
            return NothingToRedo, None
        self.steps.append(self.undone.pop())
        return None


def do_some(test, chance, bench, model):
    """Do something to a bench, and to its model, and hold them against each other."""
    name = chance.choice(["a", "z", "moon", "comet", "abcdef", "dim", "star", "ab", "zzzzzz", "b"])
    word, amount = some_amount(chance)
    hours = some_hours(chance, chance.choice((model.hours, model.hours + 1)))
    deed = chance.choice(("add", "add", "cut", "price", "undo", "undo", "redo"))
    if deed == "add":
        told, due = raised(bench.add, name, amount, hours), model.add(name, word, amount, hours)
    elif deed == "cut":
        told, due = raised(bench.cut, name), model.cut(name)
    elif deed == "price":
        told, due = raised(bench.price, name, amount), model.price(name, word, amount)
    elif deed == "undo":
        told, due = raised(bench.undo), model.undo()
    else:
        told, due = raised(bench.redo), model.redo()
    test.assertEqual(told, due)
    model.check(test, bench)


def do_within(test, chance, bench, model, depth):
    """Do some things to a bench, blocks within blocks among them."""
    for _ in range(chance.randint(0, 5)):
        if depth and chance.random() < 0.3:
            block_within(test, chance, bench, model, depth - 1)
        else:
            do_some(test, chance, bench, model)


def block_within(test, chance, bench, model, depth):
    """A block, kept or not, and left by an error or not."""
    before = list(model.steps), list(model.undone)
    is_kept, is_broken = chance.random() < 0.5, chance.random() < 0.3
    try:
        with bench.trial() as held:
            test.assertIs(held, bench)
            do_within(test, chance, bench, model, depth)
            if is_kept:
                test.assertIsNone(bench.keep())
                do_within(test, chance, bench, model, depth)
            if is_broken:
                raise Broken
        test.assertFalse(is_broken)
    except Broken:
        test.assertTrue(is_broken)
    if is_broken or not is_kept:
        model.steps, model.undone = before
    model.check(test, bench)


class BeginningTest(unittest.TestCase):
    def test_a_bench_that_begins(self):
        for text in (TEXT, PRICED, SIX.text, FULL.text):
            bench = Bench(text)
            self.assertEqual(bench.book, Book(text))
            self.assertTrue(same([bench.done, bench.verdict], [0, agrees(Book(text))[0]]))
            self.assertEqual(journal(bench), "bench\n" + text)
            self.assertEqual(raised(bench.undo), (NothingToUndo, None))
            self.assertEqual(raised(bench.redo), (NothingToRedo, None))
            self.assertEqual(raised(bench.keep), (NoTrial, None))

    def test_its_properties_are_set_when_it_is_created(self):
        self.assertLessEqual({"book", "done", "verdict"}, set(vars(Bench(text=TEXT))))

    def test_texts_that_are_no_books(self):
        for value in odd_values() + [TEXT + "\n", "bench\n" + TEXT, TEXT.replace("0-1", "0-4"), TEXT.split("\n")]:
            due = raised(Book, value)
            self.assertEqual(raised(Bench, value), due)
            self.assertEqual(due is None, value == "book 1 1\nkind a 1 0")


class DeedsTest(unittest.TestCase):
    def test_of_the_document(self):
        bench = Bench(TEXT)
        told = [bench.verdict, bench.price("b", (3, 1)), bench.verdict, bench.add("c", (1, 2), (1, 3)), bench.done,
                bench.book.names]
        self.assertEqual(told, ["agrees", None, "quarrels", None, 2, ("a", "b", "c")])

    def test_add(self):
        bench = Bench(TEXT)
        self.assertIsNone(bench.add("c", (5, 3), (0, 2, 3)))
        self.assertEqual(bench.book, with_kind(Book(TEXT), "c", (5, 3), (0, 2, 3)))
        self.assertEqual(journal(bench).split("\n")[-1], "add c 5/3 0 2-3")
        self.assertIsNone(bench.add(hours=(1,), amount=(1, 1), name="d"))
        self.assertEqual([bench.book.names, bench.done], [("a", "b", "c", "d"), 2])

    def test_cut(self):
        bench = Bench(TEXT)
        self.assertIsNone(bench.cut("a"))
        self.assertEqual(bench.book, without(Book(TEXT), "a"))
        self.assertEqual(raised(bench.cut, "b"), (Last, None))
        self.assertEqual([bench.done, journal(bench).split("\n")[-1]], [1, "cut a"])
        other = Bench(TEXT)
        self.assertIsNone(other.cut(kind="a"))
        self.assertEqual(other, bench)

    def test_price_stays_at_the_place_where_the_kind_stands(self):
        bench = Bench(TEXT)
        self.assertIsNone(bench.price("a", (7, 2)))
        self.assertEqual(bench.book.text, TEXT.replace("a 2", "a 7/2"))
        self.assertIsNone(bench.price(amount=(3, 1), kind="b"))
        self.assertEqual(bench.book.text, PRICED.replace("a 2", "a 7/2"))
        self.assertEqual(journal(bench).split("\n")[-2:], ["price a 7/2", "price b 3"])
        for amount in ((1000, 999), (1, 1000), (1000, 1)):
            bench.price("b", amount)
            self.assertEqual(bench.book.worths["b"], amount)

    def test_a_deed_that_changes_nothing_is_a_deed(self):
        bench = Bench(TEXT)
        bench.cut("b")
        bench.undo()
        bench.price("a", (2, 1))
        self.assertEqual([bench.book.text, bench.done], [TEXT, 1])
        self.assertEqual(raised(bench.redo), (NothingToRedo, None))
        bench.undo()
        self.assertEqual([bench.book.text, bench.done], [TEXT, 0])
        self.assertNotEqual(journal(bench), "bench\n" + TEXT + "\nprice a 2")

    def test_one_kind_and_eight(self):
        bench = Bench("book 2 1\nkind a 1 0")
        self.assertEqual(raised(bench.cut, "a"), (Last, None))
        for name in "bcdefgh":
            bench.add(name, (1, 1), (0, 1))
        self.assertEqual(raised(bench.add, "i", (1, 1), (0,)), (TooMany, 9))
        self.assertEqual(raised(bench.add, "i", (1, 1), (2,)), (BadHours, (2,)))
        for name in "hgfedcb":
            bench.cut(name)
        self.assertEqual([bench.done, bench.book.text], [14, "book 2 1\nkind a 1 0"])

    def test_wrong_arguments_of_each_deed(self):
        for value in odd_values() + ["c", "a", "abcdefg"]:
            for call, made, values in (
                (Bench.add, with_kind, (value, (1, 1), (0,))), (Bench.add, with_kind, ("c", value, (0,))),
                (Bench.add, with_kind, ("c", (1, 1), value)), (Bench.cut, without, (value,)),
            ):
                bench = Bench(TEXT)
                due = raised(made, Book(TEXT), *values)
                self.assertEqual(raised(call, bench, *values), due, values)
                self.assertEqual(bench.done, 0 if due else 1)
                self.assertEqual(bench.book == Book(TEXT), due is not None)

    def test_prices_that_are_none(self):
        for value in odd_values() + spoiled((3, 2)) + [(1001, 1), (1, 1001), (2, 2), (-1, 1), (0, 1), [1, 1]]:
            bench = Bench(TEXT)
            is_worth = (
                type(value) is tuple and len(value) == 2 and all(type(part) is int for part in value)
                and 1 <= min(value) and max(value) <= 1000 and gcd(*value) == 1
            )
            self.assertEqual(raised(bench.price, "a", value), None if is_worth else (BadWorth, value))
            self.assertEqual(bench.done, 1 if is_worth else 0)
            due = None if type(value) is str and value in ("a", "b") else (NoKind, value)
            self.assertEqual(raised(bench.price, value, (1, 1)), due)

    def test_which_error_stands_first(self):
        bench = Bench(TEXT)
        self.assertEqual(raised(bench.price, None, None), (NoKind, None))
        self.assertEqual(raised(bench.price, "c", (0, 1)), (NoKind, "c"))
        self.assertEqual(raised(bench.add, None, None, None), (BadName, None))
        self.assertEqual(raised(bench.add, "a", None, None), (There, "a"))
        self.assertEqual(raised(bench.add, "c", None, None), (BadWorth, None))
        self.assertEqual(raised(bench.add, "c", (1, 1), None), (BadHours, None))
        self.assertEqual(raised(bench.cut, None), (NoKind, None))
        self.assertEqual(state(bench), state(Bench(TEXT)))

    def test_verdicts(self):
        for chance in chances(60):
            book, kinds = some_book(chance)
            bench = Bench(book.text)
            self.assertEqual(bench.verdict, "quarrels" if all_quarrels(kinds, book.hours) else "agrees")

    def test_derived_classes(self):
        bench = Bench(Line(TEXT))
        bench.add(Line("c"), Row((Whole(1), Whole(2))), Row((Whole(0), 1)))
        bench.price(Line("c"), Row((Whole(1), Whole(3))))
        bench.cut(Line("a"))
        self.assertTrue(is_plain(state(bench)))
        self.assertEqual(journal(bench).split("\n")[-3:], ["add c 1/2 0-1", "price c 1/3", "cut a"])


class UndoTest(unittest.TestCase):
    def test_of_the_document(self):
        bench = Bench(TEXT)
        bench.price("b", (3, 1))
        bench.add("c", (1, 2), (1, 3))
        told = [bench.undo(), bench.undo(), bench.verdict, bench.redo(), bench.verdict]
        self.assertEqual(told, [None, None, "agrees", None, "quarrels"])

    def test_more_undone_and_redone_than_there_is(self):
        bench = Bench(TEXT)
        bench.cut("a")
        bench.undo()
        self.assertEqual(raised(bench.undo), (NothingToUndo, None))
        bench.redo()
        self.assertEqual(raised(bench.redo), (NothingToRedo, None))
        self.assertEqual([bench.done, bench.book.names], [1, ("b",)])

    def test_another_deed_behind_an_undo(self):
        bench = Bench(TEXT)
        bench.price("b", (3, 1))
        bench.cut("a")
        bench.undo()
        bench.price("b", (4, 1))
        self.assertEqual(raised(bench.redo), (NothingToRedo, None))
        bench.undo()
        self.assertEqual(bench.book.text, PRICED)
        bench.redo()
        self.assertEqual(bench.book.worths["b"], (4, 1))

    def test_a_refused_deed_behind_an_undo(self):
        bench = Bench(TEXT)
        bench.price("b", (3, 1))
        bench.undo()
        for call, values in ((bench.cut, ("c",)), (bench.price, ("b", (0, 1))), (bench.add, ("a", (1, 1), (0,))),
                             (bench.undo, ()), (bench.keep, ())):
            self.assertIsInstance(raised(call, *values), tuple)
        bench.redo()
        self.assertEqual(bench.book.text, PRICED)

    def test_many_deeds_beside_a_model(self):
        for chance in chances(120):
            book, kinds = some_book(chance, 8)
            bench, model = Bench(book.text), Model(book, kinds)
            for _ in range(30):
                do_some(self, chance, bench, model)

    def test_what_is_undone_and_done_again_leads_back(self):
        for chance in chances(60):
            book, kinds = some_book(chance, 8)
            bench, model = Bench(book.text), Model(book, kinds)
            for _ in range(12):
                do_some(self, chance, bench, model)
            while raised(bench.redo) is None:
                pass
            states = [state(bench)]
            while raised(bench.undo) is None:
                states.append(state(bench))
            self.assertEqual(states[-1], state(Bench(book.text)))
            for before in states[-2::-1]:
                bench.redo()
                self.assertEqual(state(bench), before)
            self.assertEqual(raised(bench.redo), (NothingToRedo, None))


class TrialTest(unittest.TestCase):
    def bench(self):
        """A bench with two deeds that stand, and one that is undone."""
        bench = Bench(TEXT)
        bench.price("b", (3, 1))
        bench.add("c", (1, 2), (1, 3))
        bench.cut("a")
        bench.undo()
        return bench

    def test_left_without_keep(self):
        bench = self.bench()
        before = ways(bench)
        with bench.trial() as held:
            self.assertIs(held, bench)
            held.cut("c")
            held.cut("b")
            self.assertEqual([held.done, held.book.names], [4, ("a",)])
        self.assertEqual(ways(bench), before)
        bench.redo()
        self.assertEqual(bench.book.names, ("b", "c"))

    def test_kept(self):
        bench = self.bench()
        with bench.trial() as held:
            held.cut("c")
            self.assertIsNone(held.keep())
            held.cut("b")
        self.assertEqual([bench.done, bench.book.names], [4, ("a",)])
        self.assertEqual(raised(bench.redo), (NothingToRedo, None))
        for names in (("a", "b"), ("a", "b", "c"), ("a", "b"), ("a", "b")):
            bench.undo()
            self.assertEqual(bench.book.names, names)
        self.assertEqual(raised(bench.undo), (NothingToUndo, None))

    def test_left_by_an_error(self):
        for is_kept in (False, True):
            for error in (Broken, NightError(1), KeyboardInterrupt, GeneratorExit):
                bench = self.bench()
                before = ways(bench)
                with self.assertRaises(error if isinstance(error, type) else NightError):
                    with bench.trial():
                        bench.cut("c")
                        if is_kept:
                            bench.keep()
                        raise error
                self.assertEqual(ways(bench), before)
                self.assertEqual(raised(bench.keep), (NoTrial, None))

    def test_a_refused_deed_within_a_block_is_an_error_if_it_leaves_it(self):
        bench = self.bench()
        before = ways(bench)
        with self.assertRaises(NoKind):
            with bench.trial():
                bench.keep()
                bench.cut("b")
                bench.cut("sun")
        self.assertEqual(ways(bench), before)
        with bench.trial():
            bench.keep()
            bench.cut("b")
            self.assertEqual(raised(bench.cut, "sun"), (NoKind, "sun"))
        self.assertEqual(bench.book.names, ("a", "c"))

    def test_blocks_within_blocks(self):
        for kept_within, kept in ((False, False), (False, True), (True, False), (True, True)):
            bench = self.bench()
            with bench.trial():
                bench.cut("c")
                with bench.trial() as held:
                    self.assertIs(held, bench)
                    bench.cut("b")
                    if kept_within:
                        bench.keep()
                self.assertEqual(bench.book.names, ("a",) if kept_within else ("a", "b"))
                if kept:
                    bench.keep()
                self.assertEqual(bench.done, 4 if kept_within else 3)
            told = {(False, False): "abc", (False, True): "ab", (True, False): "abc", (True, True): "a"}
            self.assertEqual(bench.book.names, tuple(told[kept_within, kept]))
            self.assertEqual(raised(bench.keep), (NoTrial, None))

    def test_keep_belongs_to_the_innermost_block(self):
        bench = self.bench()
        with bench.trial():
            bench.keep()
            with bench.trial():
                bench.cut("c")
            with bench.trial():
                bench.cut("b")
                bench.keep()
                bench.keep()
        self.assertEqual(bench.book.names, ("a", "c"))
        with bench.trial():
            with bench.trial():
                bench.keep()
            bench.cut("a")
        self.assertEqual(bench.book.names, ("a", "c"))

    def test_an_error_within_that_is_caught_between_two_blocks(self):
        bench = self.bench()
        with bench.trial():
            bench.cut("c")
            with self.assertRaises(Broken):
                with bench.trial():
                    bench.keep()
                    bench.cut("b")
                    raise Broken
            self.assertEqual(bench.book.names, ("a", "b"))
            bench.keep()
        self.assertEqual(bench.book.names, ("a", "b"))

    def test_undo_and_redo_reach_what_was_done_ahead(self):
        bench = self.bench()
        before = ways(bench)
        with bench.trial():
            bench.redo()
            self.assertEqual(bench.book.names, ("b", "c"))
            for _ in range(3):
                bench.undo()
            self.assertEqual([bench.book.text, bench.done], [TEXT, 0])
            self.assertEqual(raised(bench.undo), (NothingToUndo, None))
        self.assertEqual(ways(bench), before)
        with bench.trial():
            bench.undo()
            bench.keep()
        self.assertEqual([bench.book.text, bench.done], [PRICED, 1])
        bench.redo()
        bench.redo()
        self.assertEqual(bench.book.names, ("b", "c"))

    def test_the_block_begins_when_it_is_entered(self):
        bench = Bench(TEXT)
        bench.price("b", (3, 1))
        block = bench.trial()
        self.assertEqual(raised(bench.keep), (NoTrial, None))
        bench.cut("a")
        bench.price("b", (4, 1))
        bench.undo()
        before = ways(bench)
        with block as held:
            held.undo()
            held.undo()
            held.add("d", (1, 1), (0,))
            self.assertEqual(held.done, 1)
        self.assertEqual(ways(bench), before)
        self.assertEqual([bench.done, bench.book.names, bench.verdict], [2, ("b",), "agrees"])

    def test_keep_ahead_of_a_block_and_behind_it(self):
        bench = Bench(TEXT)
        self.assertEqual(raised(bench.keep), (NoTrial, None))
        with bench.trial():
            bench.keep()
        self.assertEqual(raised(bench.keep), (NoTrial, None))
        with bench.trial():
            bench.cut("a")
        self.assertEqual(bench.done, 0)

    def test_blocks_of_two_benches(self):
        one, other = Bench(TEXT), Bench(TEXT)
        with one.trial():
            self.assertEqual(raised(other.keep), (NoTrial, None))
            with other.trial():
                one.cut("a")
                other.cut("b")
                one.keep()
        self.assertEqual([one.book.names, other.book.names], [("b",), ("a", "b")])

    def test_what_leaves_a_block_early(self):
        bench = self.bench()

        def early():
            with bench.trial():
                bench.cut("a")
                return bench.book.names

        self.assertEqual([early(), bench.book.names], [("b", "c"), ("a", "b", "c")])
        for _ in range(2):
            with bench.trial():
                bench.cut("a")
                bench.keep()
                break
        self.assertEqual(bench.book.names, ("b", "c"))

    def test_many_blocks_beside_a_model(self):
        for chance in chances(150):
            book, kinds = some_book(chance, 8)
            bench, model = Bench(book.text), Model(book, kinds)
            for _ in range(4):
                do_within(self, chance, bench, model, 3)
            self.assertEqual(raised(bench.keep), (NoTrial, None))


class TriedTest(unittest.TestCase):
    def test_of_the_document(self):
        bench = Bench(PRICED)
        told = bench.tried(lambda held: [held.cut("a"), held.verdict])
        self.assertEqual([told, bench.verdict, bench.done], [[None, "agrees"], "quarrels", 0])

    def test_kept_if_keep_is_true(self):
        for keep, is_kept in ((True, True), (False, False), (1, False), (0, False), (None, False), ("True", False),
                              ([1], False), ((True,), False), (Whole(1), False), (SIX, False)):
            bench = Bench(TEXT)
            self.assertEqual(bench.tried(lambda held: (held.cut("a"), held.done), keep=keep), (None, 1))
            self.assertEqual(bench.done, 1 if is_kept else 0)
            self.assertEqual(raised(bench.keep), (NoTrial, None))

    def test_look_gets_the_bench_and_what_it_returns_is_returned(self):
        bench = Bench(TEXT)
        self.assertIs(bench.tried(lambda held: held), bench)
        told = ["any", {"value": 1}]
        self.assertIs(bench.tried(look=lambda held: told, keep=True), told)
        self.assertIsNone(bench.tried(lambda held: None))

    def test_look_keeps_this_block(self):
        for keep in (False, True):
            bench = Bench(TEXT)
            bench.tried(lambda held: [held.keep(), held.cut("a")], keep=keep)
            self.assertEqual(bench.book.names, ("b",))

    def test_errors_pass_on(self):
        def look(held):
            held.cut("a")
            held.keep()
            raise Broken

        for keep in (False, True):
            bench = Bench(TEXT)
            bench.price("a", (1, 1))
            bench.undo()
            before = ways(bench)
            with self.assertRaises(Broken):
                bench.tried(look, keep=keep)
            self.assertEqual(raised(bench.tried, lambda held: held.cut("sun"), keep=keep), (NoKind, "sun"))
            self.assertEqual(ways(bench), before)
            self.assertEqual(raised(bench.keep), (NoTrial, None))

    def test_keep_is_handed_in_by_name_alone(self):
        bench = Bench(TEXT)
        with self.assertRaises(TypeError):
            bench.tried(lambda held: held.cut("a"), True)
        self.assertEqual(bench.done, 0)

    def test_within_blocks_and_within_itself(self):
        bench = Bench(TEXT)
        bench.add("c", (1, 1), (3,))
        with bench.trial():
            bench.tried(lambda held: held.cut("a"), keep=True)
            self.assertEqual(bench.book.names, ("b", "c"))
            bench.tried(lambda held: held.cut("b"))
            self.assertEqual(bench.book.names, ("b", "c"))
        self.assertEqual(bench.book.names, ("a", "b", "c"))
        bench.tried(lambda held: [held.cut("a"), held.tried(lambda inner: inner.cut("b"))], keep=True)
        self.assertEqual(bench.book.names, ("b", "c"))
        bench.tried(lambda held: held.tried(lambda inner: inner.cut("b"), keep=True))
        self.assertEqual(bench.book.names, ("b", "c"))


class CopyTest(unittest.TestCase):
    def test_alike_in_all_things(self):
        for chance in chances(60):
            book, kinds = some_book(chance, 6)
            bench, model = Bench(book.text), Model(book, kinds)
            for _ in range(10):
                do_some(self, chance, bench, model)
            other = bench.copy()
            self.assertIs(type(other), Bench)
            self.assertTrue(other == bench)
            self.assertEqual(ways(other), ways(bench))

    def test_independent(self):
        bench = Bench(TEXT)
        bench.cut("a")
        bench.undo()
        other = bench.copy()
        before = state(bench)
        other.price("b", (3, 1))
        self.assertEqual(state(bench), before)
        bench.redo()
        self.assertEqual([bench.book.names, other.book.names], [("b",), ("a", "b")])
        self.assertEqual(raised(other.redo), (NothingToRedo, None))

    def test_of_a_bench_within_a_block(self):
        bench = Bench(TEXT)
        bench.price("b", (3, 1))
        with bench.trial():
            bench.cut("a")
            other = bench.copy()
            self.assertEqual(raised(other.keep), (NoTrial, None))
            self.assertEqual(other, bench)
            bench.undo()
        self.assertEqual([bench.done, bench.book.names], [1, ("a", "b")])
        self.assertEqual([other.done, other.book.names], [2, ("b",)])
        other.undo()
        other.undo()
        self.assertEqual(other.book.text, TEXT)
        with bench.trial():
            bench.keep()
            third = bench.copy()
            with third.trial():
                third.undo()
                self.assertEqual([bench.done, third.done], [1, 0])
            bench.cut("b")
        self.assertEqual([bench.done, third.done], [2, 1])


class EqualTest(unittest.TestCase):
    def test_equal_if_their_journals_are(self):
        one, other = Bench(TEXT), Bench(TEXT)
        self.assertTrue(one == other and not one != other)
        one.price("b", (3, 1))
        self.assertTrue(one != other and not one == other)
        # The same book, but not the same journal.
        self.assertFalse(one == Bench(PRICED))
        other.price("b", (3, 1))
        self.assertTrue(one == other)
        # What is undone stands in no journal.
        other.cut("a")
        other.undo()
        self.assertTrue(one == other and journal(one) == journal(other))

    def test_deeds_that_lead_to_the_same_book(self):
        one, other = Bench(TEXT), Bench(TEXT)
        one.price("a", (3, 1))
        one.price("b", (3, 1))
        other.price("b", (3, 1))
        other.price("a", (3, 1))
        self.assertTrue(one.book == other.book and one != other)

    def test_equal_nothing_else(self):
        bench = Bench(TEXT)
        for value in odd_values() + [TEXT, journal(bench), Book(TEXT), (bench,), [bench], object()]:
            self.assertIs(bench == value, False)
            self.assertIs(value == bench, False)
            self.assertIs(bench != value, True)

    def test_exactly_if_the_journals_are(self):
        benches = []
        for chance in chances(40):
            bench, model = Bench(TEXT), Model(Book(TEXT), {"a": ((2, 1), (0, 1)), "b": ((1, 1), (0, 1, 2))})
            for _ in range(3):
                do_some(self, chance, bench, model)
            benches.append(bench)
        told = [(one == other, journal(one) == journal(other)) for one in benches for other in benches]
        self.assertTrue(all(one is other for one, other in told))
        self.assertEqual(len(set(told)), 2)


if __name__ == "__main__":
    unittest.main()
