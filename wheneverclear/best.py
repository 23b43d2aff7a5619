"""The best of a whole night, with a paper that shows that nothing is better."""

from wheneverclear.books import are_hours
from wheneverclear.nights import are_looks, check_weather, check_wishes, fits, worth_of
from wheneverclear.words import is_fraction, is_pair


def best(book, weather, wishes):
    """(worth, looks, paper): looks of the greatest worth, and why there are none of more."""
    check_weather(book, weather)
    check_wishes(book, wishes)
    owns = _own_hours(book, wishes)
    done = _best_done(book, weather, wishes)
    paper = [(low, _crowded(owns, done, numbers)) for low, numbers in _lots(book, wishes)]
    looks = _looks_of(done)
    return worth_of(book, wishes, looks), looks, tuple(paper)


def best_worth(book, weather, wishes):
    """The greatest worth of looks that fit, a fraction."""
    check_weather(book, weather)
    check_wishes(book, wishes)
    return worth_of(book, wishes, _looks_of(_best_done(book, weather, wishes)))


def counts(book, weather, wishes):
    """(low, how many of the wishes worth at least low can be done), for each worth, the greatest first."""
    check_weather(book, weather)
    check_wishes(book, wishes)
    done = _best_done(book, weather, wishes)
    return tuple([(low, _how_many(done, numbers)) for low, numbers in _lots(book, wishes)])


def _own_hours(book, wishes):
    """For each wish the hours of its kind from the hour on at which it comes."""
    return [[own for own in book.kind_hours[kind] if own >= came] for kind, came in wishes]


def _lots(book, wishes):
    """(low, the numbers of the wishes worth at least low), for each worth that they have, the greatest first."""
    weights = [book.weights[kind] for kind, _ in wishes]
    worths = {book.weights[kind]: book.worths[kind] for kind, _ in wishes}
    return [
        (worths[low], [number for number, weight in enumerate(weights) if weight >= low])
        for low in sorted(worths, reverse=True)
    ]


def _how_many(done, numbers):
    return len([number for number in numbers if number in done])


def _looks_of(done):
    return tuple(sorted([(hour, number) for number, hour in done.items()]))


def _best_done(book, weather, wishes):
    """{number: hour} of the wishes that best looks do."""
    owns = _own_hours(book, wishes)
    done = {}
    # Who is done stays done, so whoever is worth most is led in first.
    row = sorted([(-book.weights[kind], number) for number, (kind, _) in enumerate(wishes)])
    for _, number in row:
        _lead_in(weather, owns, done, number)
    return done


def _lead_in(weather, owns, done, number):
    """Do one wish more, if others can be moved to other own hours of theirs so that it can be done."""
    reached = {}
    waiting = [number]
    while waiting:
        wish = waiting.pop()
        for hour in owns[wish]:
            if hour in reached:
                continue
            reached[hour] = wish
            there = [other for other in done if done[other] == hour]
            if len(there) < weather[hour]:
                _move(done, reached, hour)
                return
            waiting.extend(there)


def _move(done, reached, hour):
    """Give each hour to the wish that reached it, from this one back to the hour of nobody."""
    while hour is not None:
        wish = reached[hour]
        before = done.get(wish)
        done[wish] = hour
        hour = before


def _crowded(owns, done, numbers):
    """The hours, ascending, to which the moves lead that the undone ones of these wishes would need."""
    crowded = {}
    waiting = [number for number in numbers if number not in done]
    while waiting:
        wish = waiting.pop()
        for hour in owns[wish]:
            if hour not in crowded:
                crowded[hour] = True
                waiting.extend([number for number in numbers if done.get(number) == hour])
    return tuple(sorted(crowded))


def shows_best(book, weather, wishes, value):
    """Whether any value is right as what best tells."""
    check_weather(book, weather)
    check_wishes(book, wishes)
    if not isinstance(value, tuple) or len(value) != 3:
        return False
    told, looks, paper = value
    if not are_looks(book, wishes, looks) or fits(book, weather, wishes, looks) != ("fits",):
        return False
    if not is_fraction(told) or told != worth_of(book, wishes, looks):
        return False
    # That no looks have more need not be tried: a right paper shows it.
    return _is_paper(book, weather, wishes, looks, paper)


def _is_paper(book, weather, wishes, looks, value):
    """Whether a value is a paper for these looks."""
    lots = _lots(book, wishes)
    if not isinstance(value, tuple) or len(value) != len(lots):
        return False
    owns = _own_hours(book, wishes)
    done = {number: hour for hour, number in looks}
    for (low, numbers), line in zip(lots, value):
        if not _is_line(book, low, line):
            return False
        if _how_many(done, numbers) != _bound(weather, owns, numbers, line[1]):
            return False
    return True


def _is_line(book, low, value):
    """Whether a value is (low, hours), for this low, and any hours."""
    return is_pair(value) and is_fraction(value[0]) and value[0] == low and are_hours(book, value[1])


def _bound(weather, owns, numbers, hours):
    """How many looks hours let, and how many of the wishes could be done beside them."""
    beside = [number for number in numbers if any([own not in hours for own in owns[number]])]
    return sum([weather[hour] for hour in hours]) + len(beside)
