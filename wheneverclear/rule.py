"""The rule: which open wishes are looked at, hour by hour, by nothing that comes later."""

from wheneverclear.books import check_hour, rank_at
from wheneverclear.errors import BadClear, BadKinds
from wheneverclear.nights import MOST_WISHES, check_weather, check_wishes, worth_of
from wheneverclear.words import is_within


def chosen(book, hour, kinds, clear):
    """The places in kinds, one of each open wish, that the rule looks at."""
    check_hour(book, hour)
    rank = rank_at(book, hour)
    if not _are_up(rank, kinds):
        raise BadKinds(kinds)
    if not is_within(clear, 0, book.telescopes):
        raise BadClear(clear)
    return tuple(_front(rank, list(enumerate(kinds)), clear))


def _are_up(rank, value):
    """Whether a value is a tuple of kinds that have a rank, and of no more than there can be wishes."""
    if not isinstance(value, tuple) or len(value) > MOST_WISHES:
        return False
    return all([isinstance(kind, str) and kind in rank for kind in value])


def _front(rank, waiting, clear):
    """The numbers, ascending, of the first ones of all (number, kind), by rank and then by number."""
    row = sorted([(rank[kind], number) for number, kind in waiting])
    return sorted([number for _, number in row[:clear]])


def led_by(weather, wishes, ranks):
    """The looks of who takes, in each hour, the open wishes that stand first by that hour's ranks."""
    looks = []
    done = {}
    for hour, clear in enumerate(weather):
        rank = ranks[hour]
        waiting = [
            (number, kind) for number, (kind, came) in enumerate(wishes)
            if came <= hour and kind in rank and number not in done
        ]
        for number in _front(rank, waiting, clear):
            looks.append((hour, number))
            done[number] = True
    return tuple(looks)


def night(book, weather, wishes):
    """The looks of the rule."""
    check_weather(book, weather)
    check_wishes(book, wishes)
    return led_by(weather, wishes, [rank_at(book, hour) for hour in range(book.hours)])


def worth_had(book, weather, wishes):
    """The worth of the looks of the rule, a fraction."""
    return worth_of(book, wishes, night(book, weather, wishes))
