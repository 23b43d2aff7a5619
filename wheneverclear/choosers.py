"""Choosers: told rules, a row of kinds for each hour, and the nights that beat them."""

from wheneverclear.best import best_worth
from wheneverclear.books import up
from wheneverclear.errors import BadChooser
from wheneverclear.nights import are_wishes, check_weather, check_wishes, is_weather, worth_of
from wheneverclear.quarrels import after_weather, misplaced
from wheneverclear.rule import led_by
from wheneverclear.words import is_less


class Chooser:
    """A chooser for a book, as its text tells it."""

    def __init__(self, book, text):
        if not isinstance(text, str):
            raise BadChooser(0)
        lines = text.split("\n")
        if lines[0] != "chooser":
            raise BadChooser(1)
        rows = []
        for number, line in enumerate(lines[1:], start=2):
            row = _row_of(book, number - 2, line)
            if row is None:
                raise BadChooser(number)
            rows.append(row)
        if len(rows) < book.hours:
            raise BadChooser(len(lines) + 1)
        self.book = book
        # Joined anew, as the text that is told is a plain string in any case.
        self.text = "\n".join(lines)
        self.rows = tuple(rows)

    def __eq__(self, other):
        return isinstance(other, Chooser) and self.book == other.book and self.text == other.text


def _row_of(book, hour, line):
    """The kinds that the line of an hour tells, otherwise None."""
    words = line.split(" ")
    if hour >= book.hours or words[:2] != ["hour", str(hour)]:
        return None
    if sorted(words[2:]) != list(up(book, hour)):
        return None
    return tuple(words[2:])


def led(chooser, weather, wishes):
    """The looks of the chooser's night."""
    check_weather(chooser.book, weather)
    check_wishes(chooser.book, wishes)
    ranks = [{kind: place for place, kind in enumerate(row)} for row in chooser.rows]
    return led_by(weather, wishes, ranks)


def beaten(chooser):
    """("never",), or ("beaten", weather, wishes) with a best night that is worth more than the chooser's."""
    book = chooser.book
    for hour, row in enumerate(chooser.rows):
        wrong = misplaced(book, row, hour)
        if wrong:
            one, other = wrong[0]
            # One wish of each, and one clear telescope: the chooser takes one, which is wrong then.
            weather = (0,) * hour + (1,) + after_weather(book, one, other, hour)
            return "beaten", weather, ((one, hour), (other, hour))
    return ("never",)


def shows_beaten(chooser, value):
    """Whether any value is right as what beaten tells."""
    if value == ("never",):
        return beaten(chooser) == ("never",)
    if not isinstance(value, tuple) or len(value) != 3 or value[0] != "beaten":
        return False
    _, weather, wishes = value
    if not is_weather(chooser.book, weather) or not are_wishes(chooser.book, wishes):
        return False
    had = worth_of(chooser.book, wishes, led(chooser, weather, wishes))
    return is_less(had, best_worth(chooser.book, weather, wishes))
