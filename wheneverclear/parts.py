"""Parts of books: lots of kinds without a quarrel, and which worths and hours make kinds quarrel."""

from wheneverclear.books import are_kinds, check_kind
from wheneverclear.errors import BadKinds, Same
from wheneverclear.quarrels import do_quarrel, lies_within, quarrels
from wheneverclear.words import in_least_terms


def is_part(book, kinds):
    """Whether no two of some kinds quarrel at any hour."""
    if not are_kinds(book, kinds):
        raise BadKinds(kinds)
    return _is_calm(_torn(book), kinds)


def _torn(book):
    """{(one, other): True} of any two kinds that quarrel at some hour, one being less than other."""
    return {(one, other): True for one, other, _ in quarrels(book)}


def _is_calm(torn, kinds):
    """Whether no two of these kinds quarrel."""
    return not any([(one, other) in torn for one in kinds for other in kinds])


def parts(book):
    """All parts to which no other kind of the book can be put, ascending."""
    torn = _torn(book)
    found = [()]
    for kind in sorted(book.names):
        found = found + [kinds + (kind,) for kinds in found if _is_calm(torn, kinds + (kind,))]
    return tuple(sorted([kinds for kinds in found if not _can_grow(book, torn, kinds)]))


def _can_grow(book, torn, kinds):
    """Whether some other kind can be put to a part."""
    return any([kind not in kinds and _is_calm(torn, kinds + (kind,)) for kind in book.names])


def fewest_left(book):
    """As few kinds as can be, all others being a part."""
    return _others(book, max(parts(book), key=len))


def shows_fewest_left(book, value):
    """Whether any value is right as what fewest_left tells."""
    if not are_kinds(book, value) or len(value) != len(fewest_left(book)):
        return False
    return _is_calm(_torn(book), _others(book, value))


def _others(book, kinds):
    """All kinds of the book but these, ascending."""
    return tuple(sorted([kind for kind in book.names if kind not in kinds]))


def heals(book, kind):
    """("none",), or ("span", low, high) of the worths with which a kind would quarrel with no other one."""
    check_kind(book, kind)
    lows = []
    highs = []
    for other in _others(book, (kind,)):
        for hour in _shared_hours(book, kind, other):
            fewer, more = lies_within(book, kind, other, hour), lies_within(book, other, kind, hour)
            if not fewer and not more:
                return ("none",)
            if not more:
                lows.append(other)
            if not fewer:
                highs.append(other)
    low = max([book.weights[other] for other in lows], default=None)
    high = min([book.weights[other] for other in highs], default=None)
    if low is not None and high is not None and low > high:
        return ("none",)
    return "span", _worth_of_weight(book, low), _worth_of_weight(book, high)


def _shared_hours(book, one, other):
    """The hours at which two kinds are up."""
    return [hour for hour in book.kind_hours[one] if hour in book.kind_hours[other]]


def _worth_of_weight(book, weight):
    """The worth of the kinds that weigh so much, or None."""
    return None if weight is None else in_least_terms(weight, book.bottom)


def bars(book, one, other):
    """("never",), or ("worth", hour) or ("hours", hour) of the first hour at which two kinds quarrel."""
    check_kind(book, one)
    check_kind(book, other)
    if one == other:
        raise Same(one)
    torn = [hour for hour in range(book.hours) if do_quarrel(book, one, other, hour)]
    if not torn:
        return ("never",)
    hour = torn[0]
    if lies_within(book, one, other, hour) or lies_within(book, other, one, hour):
        return "worth", hour
    return "hours", hour


def alike(book, one, other):
    """Whether two kinds have the same worth and the same hours."""
    check_kind(book, one)
    check_kind(book, other)
    return book.worths[one] == book.worths[other] and book.kind_hours[one] == book.kind_hours[other]
