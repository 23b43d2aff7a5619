"""Values for the tests: wrong ones of any kind, and books, weathers, wishes and looks without end."""

import random

from tests.oracles import do_quarrel
from wheneverclear.books import Book

SIX = Book("book 6 2\nkind moon 3 0-2 5\nkind comet 5/2 1-3\nkind dim 1 4")
THREE = Book("book 3 2\nkind mars 5 0-1\nkind vega 3/2 0-2")
ONE = Book("book 1 1\nkind a 1 0")
FULL = Book("book 24 4" + "".join(f"\nkind {name} 1000/999 0-23" for name in "abcdefgh"))


class Whole(int):
    """An integer of a derived class."""


class Row(tuple):
    """A tuple of a derived class."""


class Line(str):
    """A string of a derived class."""


def nested(depth, inside=()):
    """A tuple in a tuple in a tuple, and so on."""
    for _ in range(depth):
        inside = (inside,)
    return inside


def odd_values():
    """Values of every kind, none of which is more than by chance what a function asks for."""
    return [
        None, True, False, 0, 1, -1, 2, 3, 6, 24, 25, 10**11, -(10**11),
        "", "a", "moon", "mars", "Moon", "moon ", "abcdefg", "0", "1", "None", "book 1 1", "\n",
        [], [0], [1, 1, 1], ["moon"], [("mars", 0)], [(0, 0)], {}, {"moon": 3}, {0: 1},
        (), (0,), (1,), (True,), (0, 0), (0, 1), (1, 0), (1, 1), (2, 2), (1, 2, 3), (None,), ("moon",), ("moon", 0),
        (("moon", 0),), (("mars", 0),), ((0, 0),), ((0, 0, 0),), ((),), ([],), ({},), ((0, [0]),), (("mars", None),),
        (False, False, False), (0, 0, 0), (0, 0, 0, 0), (0, 0, 0, 0, 0, 0), ("0", "0", "0"), [0, 0, 0],
        nested(30), nested(29, 0), nested(30, "moon"), (nested(28), nested(28, None)), (nested(29, True),) * 3,
        SIX, THREE, (SIX,), (SIX, SIX, SIX), ((THREE, 0),), [SIX], {"book": SIX},
    ]


def spoiled(value):
    """What comes of a value, at any depth, if one part of it is put otherwise."""
    rest = [None, True, False, -1, 0, 1, 99, "", "moon", "x", [], {}, (), (0,), ((0, 0),), ONE]
    if type(value) is int:
        return rest + [bool(value), str(value), [value], (value,), value + 1, value - 1]
    if type(value) is str:
        return rest + [value + "x", value.upper(), value + " ", [value], (value,), value[:-1]]
    if type(value) is not tuple:
        return rest
    told = rest + [list(value), value + value[-1:], value[:-1], value[1:], value[::-1], value + (None,), (value,)]
    for place, part in enumerate(value):
        told += [value[:place] + (other,) + value[place + 1:] for other in spoiled(part)]
    return told


def raised(call, *values, **named):
    """(class of the error, its value), or None if the call raises none."""
    try:
        call(*values, **named)
    except ValueError as error:
        return type(error), error.value
    return None


def same(one, other):
    """Whether two values are the same, True not being 1, throughout."""
    if type(one) is not type(other):
        return False
    if type(one) in (tuple, list):
        return len(one) == len(other) and all(same(first, second) for first, second in zip(one, other))
    return one == other


def is_plain(value):
    """Whether a value is made of tuples, strings, integers, bools and None themselves."""
    if type(value) is tuple:
        return all(is_plain(part) for part in value)
    return value is None or type(value) in (str, int, bool)


def chances(many, seed=1):
    """Sources of chance that are the same in each run."""
    return [random.Random(f"{seed} {number}") for number in range(many)]


def some_hours(chance, hours):
    """An ascending tuple of at least one hour."""
    return tuple(sorted(chance.sample(range(hours), chance.randint(1, hours))))


def some_spans(hours):
    """The spans of ascending hours, hour by hour."""
    starts = [hour for hour in hours if hour - 1 not in hours]
    ends = [hour for hour in hours if hour + 1 not in hours]
    return " ".join(str(low) if low == high else f"{low}-{high}" for low, high in zip(starts, ends))


def some_amount(chance):
    """A fraction as a word, and as a tuple."""
    words = ["1", "3", "7", "1000", "1/2", "3/2", "5/3", "1/1000", "999/1000", "1000/999", "7/12"]
    word = chance.choice(words)
    return word, tuple(int(part) for part in (word + "/1").split("/")[:2])


def some_book(chance, most_hours=24, most_kinds=8):
    """(book, {name: (worth, hours)}), the kinds in their sequence."""
    hours = chance.randint(1, most_hours)
    lines = [f"book {hours} {chance.randint(1, 4)}"]
    kinds = {}
    names = ["a", "z", "moon", "comet", "abcdef", "dim", "star", "ab", "zzzzzz", "b"]
    for name in chance.sample(names, chance.randint(1, most_kinds)):
        word, amount = some_amount(chance)
        kinds[name] = amount, some_hours(chance, hours)
        lines.append(f"kind {name} {word} {some_spans(kinds[name][1])}")
    return Book("\n".join(lines)), kinds


def book_of(hours, telescopes, kinds):
    """The book with these {name: (worth, hours)}."""
    lines = [f"book {hours} {telescopes}"]
    for name, ((top, bottom), own) in kinds.items():
        word = str(top) if bottom == 1 else f"{top}/{bottom}"
        lines.append(f"kind {name} {word} {some_spans(own)}")
    return Book("\n".join(lines))


def next_hours(chance, hours, known):
    """Hours of one kind more, often within, or around, those of another one."""
    own = set(some_hours(chance, hours))
    if chance.random() < 0.3:
        low = chance.randrange(hours)
        own = set(range(low, chance.randint(low + 1, hours)))
    if known and chance.random() < 0.6:
        other = set(chance.choice(known))
        own = chance.choice([own | other, own & other, other, own - other]) or own
    return tuple(sorted(own))


def calm_book(chance, most_hours=24, most_kinds=8):
    """(book, kinds) of a book that agrees."""
    hours = chance.randint(1, most_hours)
    many = chance.randint(1, most_kinds)
    kinds = {}
    for _ in range(200):
        name = chance.choice(["a", "z", "moon", "comet", "abcdef", "dim", "star", "ab", "zzzzzz", "b"])
        more = {**kinds, name: (some_amount(chance)[1], next_hours(chance, hours, [own for _, own in kinds.values()]))}
        if name in kinds or len(kinds) == many:
            continue
        if not any(do_quarrel(more, name, other, hour) for other in kinds for hour in range(hours)):
            kinds = more
    return book_of(hours, chance.randint(1, 4), kinds), kinds


def some_weather(chance, book):
    """A weather of the book."""
    return tuple(chance.randint(0, book.telescopes) for _ in range(book.hours))


def some_wishes(chance, book, most=24):
    """Wishes of the book."""
    many = chance.randint(0, most)
    return tuple((chance.choice(book.names), chance.randrange(book.hours)) for _ in range(many))


def some_looks(chance, book, wishes):
    """Looks at the wishes, whether they fit or not."""
    pairs = [(hour, number) for hour in range(book.hours) for number in range(len(wishes))]
    return tuple(sorted(chance.sample(pairs, chance.randint(0, min(len(pairs), 6)))))


def fitting_looks(chance, book, kinds, weather, wishes):
    """Looks that fit, many of them if the weather lets."""
    looks = []
    for hour, clear in enumerate(weather):
        done = [number for _, number in looks]
        can = [
            number for number, (kind, came) in enumerate(wishes)
            if came <= hour and hour in kinds[kind][1] and number not in done
        ]
        chance.shuffle(can)
        looks += [(hour, number) for number in sorted(can[:chance.randint(0, clear)])]
    return tuple(looks)


def some_night(chance, most_hours=8):
    """(book, its kinds, a weather, wishes)."""
    book, kinds = some_book(chance, most_hours)
    return book, kinds, some_weather(chance, book), some_wishes(chance, book)
