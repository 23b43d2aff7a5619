"""A desk: a bench that is led, and asked, by lines of words."""

from wheneverclear.books import up
from wheneverclear.errors import BadWords
from wheneverclear.journals import deed_of, do_deed, read_journal
from wheneverclear.rule import worth_had
from wheneverclear.words import fraction_text, integer_of

ALONE = ("undo", "redo", "book", "verdict")


class Desk:
    """A desk with the bench of a journal."""

    def __init__(self, text):
        self.bench = read_journal(text)

    def say(self, line):
        """Do, or answer, what a line tells: a string."""
        order = _order_of(line)
        if order is None:
            raise BadWords(line)
        return _answer(self.bench, order)


def _order_of(line):
    """(word, argument ..) of what a line tells, otherwise None."""
    if not isinstance(line, str) or "\n" in line:
        return None
    words = line.split(" ")
    if len(words) == 1 and words[0] in ALONE:
        return (words[0],)
    if words[0] == "up":
        return _up_of(words[1:])
    if words[0] == "night":
        return _night_of(words[1:])
    return deed_of(line)


def _up_of(words):
    """("up", hour) of the words behind up, otherwise None."""
    hours = [integer_of(word) for word in words]
    return ("up", hours[0]) if len(hours) == 1 and None not in hours else None


def _night_of(words):
    """("night", weather, wishes) of the words behind night, otherwise None."""
    if ";" not in words:
        return None
    end = words.index(";")
    kinds, hours = words[end + 1::2], words[end + 2::2]
    weather, came = [integer_of(word) for word in words[:end]], [integer_of(word) for word in hours]
    if len(kinds) != len(hours) or "" in kinds or None in weather or None in came:
        return None
    return "night", tuple(weather), tuple(zip(kinds, came))


def _answer(bench, order):
    """What a desk answers: of what is only done, that it is done."""
    if order[0] == "book":
        return bench.book.text.replace("\n", "; ")
    if order[0] == "verdict":
        return bench.verdict
    if order[0] == "up":
        return " ".join(up(bench.book, order[1])) or "-"
    if order[0] == "night":
        return fraction_text(worth_had(bench.book, order[1], order[2]))
    if order[0] == "undo":
        bench.undo()
    elif order[0] == "redo":
        bench.redo()
    else:
        do_deed(bench, order)
    return "ok"
