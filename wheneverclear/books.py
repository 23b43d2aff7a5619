"""Books: how many hours and telescopes there are, and which kinds of wishes."""

from wheneverclear.errors import BadBook, BadHours, BadName, BadWorth
from wheneverclear.errors import Last, NoHour, NoKind, There, TooMany
from wheneverclear.words import fraction_of, fraction_text, hours_of_spans, integer_of, is_ascending
from wheneverclear.words import is_fraction, is_name, is_within, shared_bottom, spans_of_hours, tops_over

MOST_HOURS = 24
MOST_TELESCOPES = 4
MOST_KINDS = 8
MOST_WORTH = 1000


class Book:
    """A book, as its text tells it."""

    def __init__(self, text):
        if not isinstance(text, str):
            raise BadBook(0)
        lines = text.split("\n")
        head = _head_of(lines[0])
        if head is None:
            raise BadBook(1)
        # Joined anew, as the text that is told is a plain string in any case.
        self.text = "\n".join(lines)
        self.hours, self.telescopes = head
        self.worths = {}
        self.kind_hours = {}
        for number, line in enumerate(lines[1:], start=2):
            kind = _kind_of(line, self.hours)
            if kind is None or kind[0] in self.worths or len(self.worths) == MOST_KINDS:
                raise BadBook(number)
            name, amount, hours = kind
            self.worths[name] = amount
            self.kind_hours[name] = hours
        if not self.worths:
            raise BadBook(len(lines) + 1)
        self.names = tuple(self.worths)
        # Integers, as fractions are not compared by size where they are sorted: a worth is a weight over bottom.
        self.bottom = shared_bottom(list(self.worths.values()))
        self.weights = tops_over(self.bottom, self.worths)

    def __eq__(self, other):
        return isinstance(other, Book) and self.text == other.text

    def __len__(self):
        return len(self.names)


def _head_of(line):
    """The hours and telescopes that a book's first line tells, otherwise None."""
    words = line.split(" ")
    if len(words) != 3 or words[0] != "book":
        return None
    hours, telescopes = integer_of(words[1]), integer_of(words[2])
    if not is_within(hours, 1, MOST_HOURS) or not is_within(telescopes, 1, MOST_TELESCOPES):
        return None
    return hours, telescopes


def _kind_of(line, hours):
    """The name, worth and hours that a line of a kind tells, otherwise None."""
    words = line.split(" ")
    if len(words) < 4 or words[0] != "kind" or not is_name(words[1]):
        return None
    amount = fraction_of(words[2])
    told = hours_of_spans(words[3:], hours)
    if not is_worth(amount) or told is None:
        return None
    return words[1], amount, told


def is_worth(value):
    """Whether a value is a fraction that can be the worth of a kind."""
    return is_fraction(value) and 1 <= value[0] <= MOST_WORTH and value[1] <= MOST_WORTH


def is_kind(book, value):
    """Whether a value is the name of a kind of the book."""
    return isinstance(value, str) and value in book.names


def are_kinds(book, value):
    """Whether a value is an ascending tuple of unlike names of kinds of the book, or ()."""
    if not isinstance(value, tuple) or not all([is_kind(book, kind) for kind in value]):
        return False
    return is_ascending(value)


def is_hour(book, value):
    """Whether a value is the number of an hour of the book."""
    return is_within(value, 0, book.hours - 1)


def are_hours(book, value):
    """Whether a value is an ascending tuple of unlike hours of the book, or ()."""
    if not isinstance(value, tuple) or not all([is_hour(book, hour) for hour in value]):
        return False
    return is_ascending(value)


def check_kind(book, kind):
    """Raise NoKind for what is not the name of a kind."""
    if not is_kind(book, kind):
        raise NoKind(kind)


def check_hour(book, hour):
    """Raise NoHour for what is not the number of an hour."""
    if not is_hour(book, hour):
        raise NoHour(hour)


def worth(book, kind):
    """The worth of a kind, a fraction."""
    check_kind(book, kind)
    return book.worths[kind]


def hours_of(book, kind):
    """The hours at which a kind is up."""
    check_kind(book, kind)
    return book.kind_hours[kind]


def up(book, hour):
    """The names of all kinds that are up at an hour."""
    check_hour(book, hour)
    return tuple(sorted([name for name in book.names if hour in book.kind_hours[name]]))


def later(book, kind, hour):
    """The hours of a kind that are above an hour."""
    check_kind(book, kind)
    check_hour(book, hour)
    return tuple([own for own in book.kind_hours[kind] if own > hour])


def rank_at(book, hour):
    """{kind: rank} of the kinds up at an hour: less for more worth, then for fewer later hours."""
    return {kind: (-book.weights[kind], len(later(book, kind, hour))) for kind in up(book, hour)}


def without(book, kind):
    """The book without a kind."""
    check_kind(book, kind)
    if len(book) == 1:
        raise Last(None)
    lines = book.text.split("\n")
    # The first line is the book's own one.
    del lines[book.names.index(kind) + 1]
    return Book("\n".join(lines))


def with_kind(book, name, amount, hours):
    """The book with one kind more, behind all others."""
    if not is_name(name):
        raise BadName(name)
    if is_kind(book, name):
        raise There(name)
    if not is_worth(amount):
        raise BadWorth(amount)
    if hours == () or not are_hours(book, hours):
        raise BadHours(hours)
    if len(book) == MOST_KINDS:
        raise TooMany(MOST_KINDS + 1)
    return Book(f"{book.text}\n{_kind_line(name, amount, hours)}")


def with_worth(book, kind, amount):
    """The book in which a kind has this worth, at the place where it stands."""
    check_kind(book, kind)
    if not is_worth(amount):
        raise BadWorth(amount)
    lines = book.text.split("\n")
    # The first line is the book's own one.
    lines[book.names.index(kind) + 1] = _kind_line(kind, amount, book.kind_hours[kind])
    return Book("\n".join(lines))


def _kind_line(name, amount, hours):
    """The line that tells a kind."""
    return f"kind {name} {fraction_text(amount)} {spans_of_hours(hours)}"
