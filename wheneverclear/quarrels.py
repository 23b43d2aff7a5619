"""Quarrels: which kinds are ahead of which, and whether no two kinds of a book quarrel."""

from wheneverclear.books import check_hour, check_kind, is_hour, is_kind, later, rank_at, up
from wheneverclear.errors import NotUp
from wheneverclear.words import is_within


def is_ahead(book, one, other, hour):
    """Whether who can look at one or other at an hour does no harm by taking one."""
    check_kind(book, one)
    check_kind(book, other)
    check_hour(book, hour)
    for kind in (one, other):
        if hour not in book.kind_hours[kind]:
            raise NotUp(kind)
    return _leads(book, one, other, hour)


def _leads(book, one, other, hour):
    """Whether one is ahead of other, both being up at this hour."""
    return book.weights[one] >= book.weights[other] and lies_within(book, one, other, hour)


def lies_within(book, one, other, hour):
    """Whether each later hour of one is one of other's, too."""
    return all([own in book.kind_hours[other] for own in later(book, one, hour)])


def misplaced(book, row, hour):
    """The pairs (one, other) of a row of kinds that are up, other behind one, and one not ahead of it."""
    return [
        (one, other) for place, one in enumerate(row) for other in row[place + 1:]
        if not _leads(book, one, other, hour)
    ]


def do_quarrel(book, one, other, hour):
    """Whether two kinds quarrel at an hour."""
    if hour not in book.kind_hours[one] or hour not in book.kind_hours[other]:
        return False
    return not _leads(book, one, other, hour) and not _leads(book, other, one, hour)


def quarrels(book):
    """All (one, other, hour) of two kinds that quarrel at an hour, one less than other."""
    names = sorted(book.names)
    return tuple([
        (one, other, hour) for place, one in enumerate(names) for other in names[place + 1:]
        for hour in range(book.hours) if do_quarrel(book, one, other, hour)
    ])


def after_weather(book, one, other, hour):
    """An after-weather with which it was wrong to look at one, which is not ahead of other."""
    if book.weights[one] < book.weights[other]:
        return (0,) * (book.hours - hour - 1)
    alone = [own for own in later(book, one, hour) if own not in book.kind_hours[other]]
    return tuple([1 if at == alone[0] else 0 for at in range(hour + 1, book.hours)])


def agrees(book):
    """("agrees", rows), or ("quarrels", one, other, hour, after_one, after_other)."""
    found = quarrels(book)
    if not found:
        return "agrees", tuple([_row_at(book, hour) for hour in range(book.hours)])
    one, other, hour = found[0]
    after_one = after_weather(book, one, other, hour)
    after_other = after_weather(book, other, one, hour)
    return "quarrels", one, other, hour, after_one, after_other


def _row_at(book, hour):
    """The kinds that are up, each ahead of all behind it, if no two of them quarrel."""
    rank = rank_at(book, hour)
    return tuple(sorted(list(rank), key=lambda kind: rank[kind]))


def shows_agrees(book, value):
    """Whether any value is right as what agrees tells."""
    if not isinstance(value, tuple):
        return False
    if len(value) == 2 and value[0] == "agrees":
        return _are_rows(book, value[1])
    if len(value) == 6 and value[0] == "quarrels":
        return _is_quarrel(book, value[1:])
    return False


def _are_rows(book, value):
    if not isinstance(value, tuple) or len(value) != book.hours:
        return False
    return all([_is_row(book, row, hour) for hour, row in enumerate(value)])


def _is_row(book, value, hour):
    """Whether a value is a row of the kinds that are up, each ahead of all behind it."""
    if not isinstance(value, tuple) or not all([is_kind(book, kind) for kind in value]):
        return False
    return sorted(value) == list(up(book, hour)) and not misplaced(book, value, hour)


def _is_quarrel(book, told):
    one, other, hour, after_one, after_other = told
    if not is_kind(book, one) or not is_kind(book, other) or not is_hour(book, hour):
        return False
    if not do_quarrel(book, one, other, hour):
        return False
    return _is_wrong(book, one, other, hour, after_one) and _is_wrong(book, other, one, hour, after_other)


def _is_wrong(book, one, other, hour, after):
    """Whether after is an after-weather with which who looks at one has less than who looks at other."""
    if not isinstance(after, tuple) or len(after) != book.hours - hour - 1:
        return False
    if not all([is_within(clear, 0, 1) for clear in after]):
        return False
    hours = [at for at, clear in enumerate(after, start=hour + 1) if clear == 1]
    return _had(book, one, other, hours) < _had(book, other, one, hours)


def _had(book, one, other, hours):
    """What who looks at one first has, as a weight, if these hours behind that are clear."""
    if any([at in book.kind_hours[other] for at in hours]):
        return book.weights[one] + book.weights[other]
    return book.weights[one]
