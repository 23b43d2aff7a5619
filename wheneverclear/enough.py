"""How few clear hours are enough, whichever they are."""

from wheneverclear.books import are_hours, are_kinds, check_hour
from wheneverclear.errors import BadHours, BadNumber
from wheneverclear.nights import check_wishes
from wheneverclear.words import is_pair, is_within


def enough(book, wishes, hour):
    """The least number of clear hours with which all due wishes can be done, or None."""
    _check(book, wishes, hour)
    left = book.hours - hour
    # The lot of no kinds has no due wish, and so needs nothing.
    needed = max([_needed(left, lot) for lot in _lots(book, wishes, hour)])
    return needed if needed <= left else None


def why_enough(book, wishes, hour):
    """("nothing",), or ("lot", kinds) of kinds that need as many clear hours as are enough."""
    _check(book, wishes, hour)
    if not _due(book, wishes, hour):
        return ("nothing",)
    left = book.hours - hour
    kinds, _, _, _ = max(_lots(book, wishes, hour), key=lambda lot: _needed(left, lot))
    return "lot", kinds


def shows_why_enough(book, wishes, hour, value):
    """Whether any value is right as what why_enough tells."""
    told = enough(book, wishes, hour)
    due = _due(book, wishes, hour)
    if not due:
        return value == ("nothing",)
    if not is_pair(value) or value[0] != "lot" or not are_kinds(book, value[1]):
        return False
    kinds = value[1]
    left = book.hours - hour
    needed = _needed(left, _lot(book, due, hour, kinds))
    if told is None:
        return needed > left
    # A lot without a due wish needs none, which is less than what a due one does.
    return needed == told


def doable(book, wishes, hour, hours):
    """How many due wishes can be done with one look in each of these hours."""
    _check(book, wishes, hour)
    if not _are_hours_from(book, hour, hours):
        raise BadHours(hours)
    return _doable(_lots(book, wishes, hour), hours)


def surely(book, wishes, hour, clear):
    """How many due wishes can be done, whichever so many hours are clear."""
    _check(book, wishes, hour)
    left = book.hours - hour
    _check_clear(left, clear)
    return min([_let(left, clear, lot) for lot in _lots(book, wishes, hour)])


def worst(book, wishes, hour, clear):
    """So many clear hours with which no more due wishes can be done than surely."""
    _check(book, wishes, hour)
    left = book.hours - hour
    _check_clear(left, clear)
    _, hours, _, _ = min(_lots(book, wishes, hour), key=lambda lot: _let(left, clear, lot))
    # Who wants to hinder a lot takes the hours first that it has not.
    row = [at for at in range(hour, book.hours) if at not in hours] + list(hours)
    return tuple(sorted(row[:clear]))


def shows_worst(book, wishes, hour, clear, value):
    """Whether any value is right as what worst tells."""
    told = surely(book, wishes, hour, clear)
    if not _are_hours_from(book, hour, value) or len(value) != clear:
        return False
    return _doable(_lots(book, wishes, hour), value) == told


def _check(book, wishes, hour):
    check_wishes(book, wishes)
    check_hour(book, hour)


def _check_clear(left, clear):
    """Raise BadNumber for what is not a number of clear hours of those that are left."""
    if not is_within(clear, 0, left):
        raise BadNumber(clear)


def _are_hours_from(book, hour, value):
    """Whether a value is an ascending tuple of unlike hours of the book from hour on."""
    return are_hours(book, value) and all([at >= hour for at in value])


def _due(book, wishes, hour):
    """{kind: how many wishes of it are due} of the kinds that have due wishes."""
    kinds = [kind for kind, came in wishes if came <= hour]
    return {name: kinds.count(name) for name in book.names if name in kinds}


def _lots(book, wishes, hour):
    """Each lot, also the one of none, of kinds that have due wishes.

    Kinds without due wishes only add hours to a lot, so no lot with such counts.
    """
    due = _due(book, wishes, hour)
    lots = [()]
    for kind in sorted(due):
        lots = lots + [kinds + (kind,) for kinds in lots]
    return [_lot(book, due, hour, kinds) for kinds in lots]


def _lot(book, due, hour, kinds):
    """(kinds, the hours from hour on of at least one of them, how many due wishes they have, and all others)."""
    hours = [at for at in range(hour, book.hours) if any([at in book.kind_hours[kind] for kind in kinds])]
    many = sum([due.get(kind, 0) for kind in kinds])
    return kinds, hours, many, sum(list(due.values())) - many


def _needed(left, lot):
    """How many of the hours that are left must be clear so that a lot is done for certain."""
    _, hours, many, _ = lot
    return left - len(hours) + many if many else 0


def _doable(lots, hours):
    """How many due wishes can be done in these hours: no lot has more done than it has of them."""
    return min([others + len([at for at in own if at in hours]) for _, own, _, others in lots])


def _let(left, clear, lot):
    """How many due wishes a lot lets be done if as many clear hours as can be are none of its own."""
    _, hours, _, others = lot
    return others + max(0, clear - (left - len(hours)))
