"""A desk: what it does, and answers, line by line (section 14)."""

import unittest

from tests.oracles import all_quarrels, had, rule_anew
from tests.samples import FULL, Line, Row, Whole, chances, is_plain, odd_values, raised, some_amount, some_book
from tests.samples import some_hours, some_spans, some_weather, some_wishes
from wheneverclear.bench import Bench
from wheneverclear.books import Book
from wheneverclear.desk import Desk
from wheneverclear.errors import BadHours, BadJournal, BadName, BadWeather, BadWishes, BadWords, BadWorth, Last, NoHour
from wheneverclear.errors import NoKind, NothingToRedo, NothingToUndo, There, TooMany
from wheneverclear.journals import journal, read_journal

HEAD = "bench\nbook 4 1\nkind a 2 0-1\nkind b 1 0-2"
TEXT = HEAD + "\nadd c 1/2 1 3"


class BeginningTest(unittest.TestCase):
    def test_the_bench_of_a_journal(self):
        desk = Desk(TEXT)
        self.assertIs(type(desk.bench), Bench)
        self.assertTrue(desk.bench == read_journal(TEXT))
        self.assertIn("bench", vars(desk))
        self.assertEqual(Desk(text=HEAD).bench.done, 0)

    def test_journals_that_cannot_be_read(self):
        for value in odd_values() + [TEXT + "\n", TEXT + "\ncut", HEAD + "\nundo", "bench"]:
            told = raised(Desk, value)
            self.assertEqual(told, raised(read_journal, value))
            self.assertIs(told[0], BadJournal)

    def test_the_very_bench_on_which_it_works(self):
        desk = Desk(TEXT)
        bench = desk.bench
        self.assertEqual([desk.say("cut c"), bench.book.names, bench.done], ["ok", ("a", "b"), 2])
        bench.cut("b")
        self.assertEqual(desk.say("book"), "book 4 1; kind a 2 0-1")
        self.assertEqual([desk.say("undo"), desk.say("undo"), desk.say("undo")], ["ok"] * 3)
        self.assertIs(desk.bench, bench)
        self.assertEqual(journal(bench), HEAD)
        with bench.trial():
            desk.say("cut a")
            self.assertEqual(bench.done, 1)
        self.assertEqual(desk.say("book"), "book 4 1; kind a 2 0-1; kind b 1 0-2")


class AnswersTest(unittest.TestCase):
    def test_of_the_document(self):
        desk = Desk(TEXT)
        lines = ("book", "verdict", "up 1", "up 3", "night 1 1 1 0 ; b 0 a 0", "night 0 1 0 1 ; b 0 a 0 c 1",
                 "night 0 0 0 0 ;")
        told = ["book 4 1; kind a 2 0-1; kind b 1 0-2; kind c 1/2 1 3", "quarrels", "a b c", "c", "3", "5/2", "0"]
        self.assertEqual([desk.say(line) for line in lines], told)
        lines = ("cut c", "verdict", "cut b", "undo", "undo", "verdict", "price c 1/9")
        self.assertEqual([desk.say(line) for line in lines], ["ok", "agrees", "ok", "ok", "ok", "quarrels", "ok"])

    def test_deeds(self):
        desk = Desk(HEAD)
        for line in ("add moon 7/3 0 2-3", "price moon 1000/999", "cut a", "add a 1 3"):
            self.assertEqual(desk.say(line), "ok")
        self.assertEqual(journal(desk.bench), HEAD + "\nadd moon 7/3 0 2-3\nprice moon 1000/999\ncut a\nadd a 1 3")

    def test_kinds_that_are_called_as_words_of_lines(self):
        names = ("book", "undo", "redo", "up", "add", "cut")
        desk = Desk("bench\nbook 2 1" + "".join(f"\nkind {name} 1 0" for name in names))
        for name in ("book", "undo", "redo", "up", "add"):
            self.assertEqual(desk.say(f"cut {name}"), "ok")
        self.assertEqual([desk.say("book"), desk.say("up 0")], ["book 2 1; kind cut 1 0", "cut"])
        self.assertEqual([desk.say("add up 1 1"), desk.say("price up 2"), desk.say("add night 1 0")], ["ok"] * 3)
        self.assertEqual(desk.say("night 1 1 ; up 0 night 0"), "3")
        self.assertEqual(desk.bench.done, 8)

    def test_undo_and_redo(self):
        desk = Desk(TEXT)
        self.assertEqual([desk.say("undo"), desk.bench.done, desk.say("redo"), desk.bench.done], ["ok", 0, "ok", 1])
        self.assertEqual(raised(desk.say, "redo"), (NothingToRedo, None))
        desk.say("undo")
        self.assertEqual(raised(desk.say, "undo"), (NothingToUndo, None))
        self.assertEqual(raised(desk.say, "cut sun"), (NoKind, "sun"))
        self.assertEqual(desk.say("redo"), "ok")

    def test_up(self):
        desk = Desk("bench\nbook 4 1\nkind b 2 0-1\nkind a 1 0 3")
        self.assertEqual([desk.say(f"up {hour}") for hour in range(4)], ["a b", "b", "-", "a"])
        for hour in (4, -1, 24, 99, -12, 10**11):
            self.assertEqual(raised(desk.say, f"up {hour}"), (NoHour, hour))
        for word in ("01", "-0", "+1", "1.0", "a", "", "1/2", "0-1", "1 2", "True", "1 ", " 1"):
            self.assertEqual(raised(desk.say, f"up {word}"), (BadWords, f"up {word}"))
        self.assertEqual(raised(desk.say, "up"), (BadWords, "up"))

    def test_night(self):
        desk = Desk(TEXT)
        self.assertEqual(desk.say("night 1 1 1 1 ; a 0 b 0 c 0 c 3"), "7/2")
        self.assertEqual(desk.say("night 1 1 0 1 ; a 0 a 0 c 3 c 3"), "9/2")
        self.assertEqual(desk.say("night 1 1 1 1 ;"), "0")
        self.assertEqual(desk.say("night 1 0 0 1 ;" + " c 3" * 24), "1/2")
        self.assertEqual(raised(desk.say, "night 1 1 1 1 ;" + " c 3" * 25), (BadWishes, (("c", 3),) * 25))

    def test_nights_that_the_function_refuses(self):
        desk = Desk(TEXT)
        for words, weather in (("", ()), ("1 ", (1,)), ("1 1 1 ", (1, 1, 1)), ("1 1 1 1 1 ", (1,) * 5),
                               ("2 0 0 0 ", (2, 0, 0, 0)), ("-1 0 0 0 ", (-1, 0, 0, 0))):
            for wishes in ("", " a 0", " sun 0"):
                self.assertEqual(raised(desk.say, f"night {words};{wishes}"), (BadWeather, weather))
        for words, wishes in ((" sun 0", (("sun", 0),)), (" a 4", (("a", 4),)), (" a -1", (("a", -1),)),
                              (" a 0 ; 1", (("a", 0), (";", 1))), (" 0 0", (("0", 0),)), (" A 0", (("A", 0),)),
                              (" ; 0", ((";", 0),))):
            self.assertEqual(raised(desk.say, f"night 1 1 1 1 ;{words}"), (BadWishes, wishes))

    def test_nights_that_have_no_form(self):
        desk = Desk(TEXT)
        for line in ("night", "night 1 1 1 1", "night 1 1 1 1;", "night 1 1 1 1 ; a", "night 1 1 1 1 ; a 0 b",
                     "night ; 0 a", "night 1 1 1 1 ; a 00", "night 01 1 1 1 ;", "night 1 1 1 x ;", "night 1 1 1 1 ; ",
                     "night 1 1 1 1  ;", "night  ;", "night 1 1 1 1 ;  0", "night 1 1 1 1 ; a 0 ;", "night;",
                     "night 1 1 1 1 ; 0", "night 1/2 ;", "night 1 1 1 1 ; a ;", "night 1 a 1 1 ; a 0", " night ;",
                     "night ; ;", "night 1 1 1 1 ; a 1.0", "night  1 1 1 1 ;", "night 1 1 1 1 ; a 0 "):
            self.assertEqual(raised(desk.say, line), (BadWords, line))

    def test_many_benches(self):
        for chance in chances(100):
            book, kinds = some_book(chance)
            desk = Desk("bench\n" + book.text)
            self.assertEqual(desk.say("book"), "; ".join(book.text.split("\n")))
            self.assertEqual(desk.say("verdict"), "quarrels" if all_quarrels(kinds, book.hours) else "agrees")
            for hour in range(book.hours):
                up = sorted(kind for kind in kinds if hour in kinds[kind][1])
                self.assertEqual(desk.say(f"up {hour}"), " ".join(up) if up else "-")
            weather, wishes = some_weather(chance, book), some_wishes(chance, book)
            words = ["night", *weather, ";", *(word for wish in wishes for word in wish)]
            told = desk.say(" ".join(str(word) for word in words))
            self.assertEqual(told, str(had(kinds, wishes, rule_anew(kinds, weather, wishes))))
            self.assertTrue(is_plain(told))

    def test_the_same_as_on_the_bench(self):
        for chance in chances(60):
            book, _ = some_book(chance, 6)
            desk, bench = Desk("bench\n" + book.text), Bench(book.text)
            for _ in range(15):
                name = chance.choice(["a", "z", "moon", "comet", "abcdef", "dim", "toolong"])
                word, amount = some_amount(chance)
                hours = some_hours(chance, book.hours + 1)
                line, call, values = chance.choice((
                    (f"add {name} {word} {some_spans(hours)}", bench.add, (name, amount, hours)),
                    (f"cut {name}", bench.cut, (name,)), (f"price {name} {word}", bench.price, (name, amount)),
                    ("undo", bench.undo, ()), ("redo", bench.redo, ()),
                ))
                self.assertEqual(raised(desk.say, line), raised(call, *values))
                self.assertTrue(desk.bench == bench)
                self.assertEqual(desk.say("verdict"), bench.verdict)


class WrongLinesTest(unittest.TestCase):
    def test_what_is_no_string_or_has_no_form(self):
        lines = ["cut c\n", "\nbook", "book\n", "cut a\ncut b", "verdict\nverdict", "price a 1\n", "add d 1 0\n"]
        for value in odd_values() + lines + [Row(("book",)), Whole(1)]:
            desk = Desk(TEXT)
            self.assertEqual(raised(desk.say, value), (BadWords, value))
            self.assertEqual(journal(desk.bench), TEXT)
        value = ["book"]
        self.assertIs(raised(Desk(TEXT).say, value)[1], value)

    def test_lines_without_a_form(self):
        for line in ("", " ", "cut", "cut ", "cut  a", " cut a", "cut a ", "cut a b", "add", "add d", "add d 1",
                     "add d 1 ", "add d x 0", "add d 1 x", "add d 2/2 0", "add d 3/1 0", "add d 1 0 1", "add d 1 1 0",
                     "add d 1 0-0", "add d 1 100", "add d 1 0-100", "add d 1 -1", "add d 1 00", "add  1 0", "price",
                     "price a", "price a x", "price a 1 1", "price a 01", "price a -0", "price a 1/0", "price a 0/2",
                     "price a 1/1", "price  1", "undo 1", "undo ", "redo a", "books", "book 4 1", "verdict ", "bench",
                     "kind a 1 0", "Cut a", "UNDO", "keep", "trial", "copy", "say book", "journal", "night", "up",
                     "cut a;", "book;"):
            desk = Desk(TEXT)
            expected = (NoKind, "a;") if line == "cut a;" else (BadWords, line)
            self.assertEqual(raised(desk.say, line), expected)
            self.assertEqual(journal(desk.bench), TEXT)

    def test_what_the_bench_raises(self):
        for line, error, value in (
            ("cut sun", NoKind, "sun"), ("cut 1", NoKind, "1"), ("price sun 1", NoKind, "sun"),
            ("price sun 0", NoKind, "sun"),
            ("price a 0", BadWorth, (0, 1)), ("price a -1/2", BadWorth, (-1, 2)), ("price a 1001", BadWorth, (1001, 1)),
            ("price a 1/1001", BadWorth, (1, 1001)), ("price a 999999999999", BadWorth, (999999999999, 1)),
            ("add sun! 1 0", BadName, "sun!"), ("add toolong 1 0", BadName, "toolong"), ("add a 0 99", There, "a"),
            ("add d 0 99", BadWorth, (0, 1)), ("add d -3/2 0", BadWorth, (-3, 2)), ("add d 1 4", BadHours, (4,)),
            ("add d 1 3-5 97 99", BadHours, (3, 4, 5, 97, 99)), ("add D 0 99", BadName, "D"),
            ("add d 1 0-99", BadHours, tuple(range(100))), ("redo", NothingToRedo, None),
        ):
            desk = Desk(TEXT)
            self.assertEqual(raised(desk.say, line), (error, value))
            self.assertEqual(journal(desk.bench), TEXT)
        desk = Desk("bench\nbook 1 1\nkind a 1 0")
        self.assertEqual(raised(desk.say, "cut a"), (Last, None))
        self.assertEqual(raised(Desk("bench\n" + FULL.text).say, "add i 1 0"), (TooMany, 9))

    def test_a_refused_line_changes_nothing(self):
        desk = Desk(TEXT)
        desk.say("undo")
        for line in ("cut sun", "nothing", "add a 1 0", "up 4", "night ;"):
            self.assertIsNotNone(raised(desk.say, line))
        self.assertEqual(desk.say("redo"), "ok")
        self.assertEqual(journal(desk.bench), TEXT)

    def test_answers_change_nothing(self):
        desk = Desk(TEXT)
        desk.say("undo")
        for line in ("book", "verdict", "up 0", "night 1 1 1 1 ; a 0"):
            self.assertEqual(desk.say(line), desk.say(line))
        self.assertEqual(desk.say("redo"), "ok")

    def test_by_name_and_derived_classes(self):
        desk = Desk(TEXT)
        self.assertEqual(desk.say(line="verdict"), "quarrels")
        lines = ("book", "up 0", "add d 1 0", "cut a", "night 1 1 1 1 ; b 0", "verdict")
        self.assertTrue(all(type(desk.say(Line(line))) is str for line in lines))
        self.assertTrue(is_plain((journal(desk.bench), desk.bench.book.names)))
        self.assertEqual(desk.bench.book, Book("book 4 1\nkind b 1 0-2\nkind c 1/2 1 3\nkind d 1 0"))


if __name__ == "__main__":
    unittest.main()
