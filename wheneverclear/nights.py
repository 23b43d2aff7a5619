"""Nights: which looks fit a weather and wishes, and what they are worth."""

from wheneverclear.books import check_hour, is_hour, is_kind, worth
from wheneverclear.errors import BadLooks, BadWeather, BadWishes
from wheneverclear.words import added, is_ascending, is_pair, is_within

MOST_WISHES = 24


def is_weather(book, value):
    """Whether a value is a weather of the book."""
    if not isinstance(value, tuple) or len(value) != book.hours:
        return False
    return all([is_within(clear, 0, book.telescopes) for clear in value])


def are_wishes(book, value):
    """Whether a value is a tuple of wishes of the book, and of no more than are let."""
    if not isinstance(value, tuple) or len(value) > MOST_WISHES:
        return False
    return all([_is_wish(book, wish) for wish in value])


def are_looks(book, wishes, value):
    """Whether a value is a tuple of looks at these wishes, ascending."""
    if not isinstance(value, tuple) or not all([_is_look(book, wishes, look) for look in value]):
        return False
    return is_ascending(value)


def check_weather(book, weather):
    """Raise BadWeather for what is not a weather of the book."""
    if not is_weather(book, weather):
        raise BadWeather(weather)


def check_wishes(book, wishes):
    """Raise BadWishes for what are not wishes of the book."""
    if not are_wishes(book, wishes):
        raise BadWishes(wishes)


def check_looks(book, wishes, looks):
    """Raise BadLooks for what are not looks at these wishes."""
    if not are_looks(book, wishes, looks):
        raise BadLooks(looks)


def _is_wish(book, value):
    return is_pair(value) and is_kind(book, value[0]) and is_hour(book, value[1])


def _is_look(book, wishes, value):
    return is_pair(value) and is_hour(book, value[0]) and is_within(value[1], 0, len(wishes) - 1)


def _is_in_time(book, wish, hour):
    """Whether a wish has come by an hour, and its kind is up then."""
    kind, came = wish
    return came <= hour and hour in book.kind_hours[kind]


def fits(book, weather, wishes, looks):
    """("fits",) if all looks can stand, otherwise ("wrong", place) of the first that cannot."""
    check_weather(book, weather)
    check_wishes(book, wishes)
    check_looks(book, wishes, looks)
    done = {}
    left = list(weather)
    for place, (hour, number) in enumerate(looks):
        if number in done or left[hour] == 0 or not _is_in_time(book, wishes[number], hour):
            return "wrong", place
        done[number] = True
        left[hour] -= 1
    return ("fits",)


def worth_of(book, wishes, looks):
    """The sum of the worths of all wishes that looks do, a fraction."""
    check_wishes(book, wishes)
    check_looks(book, wishes, looks)
    total = (0, 1)
    for number in sorted({done for _, done in looks}):
        total = added(total, worth(book, wishes[number][0]))
    return total


def open_at(book, wishes, looks, hour):
    """The numbers of the wishes that came up to an hour and were not done ahead of it."""
    check_wishes(book, wishes)
    check_looks(book, wishes, looks)
    check_hour(book, hour)
    done = {number: True for at, number in looks if at < hour}
    return tuple([
        number for number, (_, came) in enumerate(wishes)
        if came <= hour and number not in done
    ])


def is_lesser(book, weather, other):
    """Whether in no hour more is clear by weather than by other."""
    check_weather(book, weather)
    check_weather(book, other)
    return all([one <= two for one, two in zip(weather, other)])


def cut(book, weather, hour):
    """The weather with nothing clear from an hour on."""
    check_weather(book, weather)
    check_hour(book, hour)
    # Plain integers are told, whatever class derived from them was handed in.
    kept = [int(clear) for clear in weather[:hour]]
    return tuple(kept + [0] * (book.hours - hour))
