"""What the document says, told anew for the tests, in other ways than the package goes."""

from fractions import Fraction
from itertools import permutations

from wheneverclear.books import hours_of, worth


def kinds_of(book):
    """{name: (worth, hours)} of a book."""
    return {name: (worth(book, name), hours_of(book, name)) for name in book.names}


def amount(kinds, kind):
    """The worth of a kind."""
    return Fraction(*kinds[kind][0])


def up_at(kinds, hour):
    """The kinds that are up at an hour."""
    return {kind for kind in kinds if hour in kinds[kind][1]}


def later_of(kinds, kind, hour):
    """The later hours of a kind."""
    return {own for own in kinds[kind][1] if own > hour}


def ahead(kinds, one, other, hour):
    """Whether one is ahead of other, both being up."""
    return amount(kinds, one) >= amount(kinds, other) and later_of(kinds, one, hour) <= later_of(kinds, other, hour)


def do_quarrel(kinds, one, other, hour):
    """Whether two kinds quarrel at an hour."""
    if not {one, other} <= up_at(kinds, hour):
        return False
    return not ahead(kinds, one, other, hour) and not ahead(kinds, other, one, hour)


def all_quarrels(kinds, hours):
    """Every (one, other, hour) of two kinds that quarrel, in both sequences."""
    return {
        (one, other, hour) for one in kinds for other in kinds for hour in range(hours)
        if do_quarrel(kinds, one, other, hour)
    }


def is_number(value, most):
    """Whether a value is an integer from 0 to most."""
    return type(value) is int and 0 <= value <= most


def is_row(kinds, hour, row):
    """Whether a value is a row of the kinds that are up, each ahead of all behind it."""
    if type(row) is not tuple or row not in list(permutations(up_at(kinds, hour))):
        return False
    return all(ahead(kinds, one, other, hour) for place, one in enumerate(row) for other in row[place:])


def had_after(kinds, one, other, hour, after):
    """What who looks at one has in the end."""
    clear = [hour + 1 + place for place, look in enumerate(after) if look]
    return amount(kinds, one) + (amount(kinds, other) if set(clear) & later_of(kinds, other, hour) else 0)


def right_agrees(kinds, hours, value):
    """Whether a value is right as what agrees tells."""
    if type(value) is not tuple or not value or type(value[0]) is not str:
        return False
    if value[0] == "agrees" and len(value) == 2:
        rows = value[1]
        return type(rows) is tuple and len(rows) == hours and all(map(is_row, [kinds] * hours, range(hours), rows))
    if value[0] != "quarrels" or len(value) != 6:
        return False
    one, other, hour, after_one, after_other = value[1:]
    if type(one) is not str or type(other) is not str or type(hour) is not int:
        return False
    if (one, other, hour) not in all_quarrels(kinds, hours):
        return False
    for after in (after_one, after_other):
        if type(after) is not tuple or len(after) != hours - hour - 1 or not all(is_number(part, 1) for part in after):
            return False
    return (
        had_after(kinds, one, other, hour, after_one) < had_after(kinds, other, one, hour, after_one)
        and had_after(kinds, other, one, hour, after_other) < had_after(kinds, one, other, hour, after_other)
    )


def stands_before(kinds, hour):
    """A function: whether, by the rule, one kind stands ahead of another one in the row."""
    def before(one, other):
        if amount(kinds, one) != amount(kinds, other):
            return amount(kinds, one) > amount(kinds, other)
        return len(later_of(kinds, one, hour)) < len(later_of(kinds, other, hour))
    return before


def first_of(numbers, kind_of, before):
    """The number that stands first: no other one stands before it, and of equal ones it is the least."""
    for number in sorted(numbers):
        if not any(before(kind_of(other), kind_of(number)) for other in numbers):
            return number
    raise AssertionError("nobody stands first")


def taken(numbers, kind_of, before, clear):
    """As many of the first ones as are clear."""
    left, told = list(numbers), []
    while left and len(told) < clear:
        told.append(first_of(left, kind_of, before))
        left.remove(told[-1])
    return sorted(told)


def led_anew(kinds, weather, wishes, before_at):
    """The looks of who takes the first ones, hour by hour; before_at(hour) tells who stands before whom."""
    looks = []
    for hour, clear in enumerate(weather):
        waiting = [
            number for number, (kind, came) in enumerate(wishes)
            if came <= hour and kind in up_at(kinds, hour) and number not in [done for _, done in looks]
        ]
        looks += [(hour, number) for number in taken(waiting, lambda one: wishes[one][0], before_at(hour), clear)]
    return tuple(looks)


def rule_anew(kinds, weather, wishes):
    """The looks of the rule."""
    return led_anew(kinds, weather, wishes, lambda hour: stands_before(kinds, hour))


def chooser_anew(kinds, rows, weather, wishes):
    """The looks of a chooser."""
    return led_anew(kinds, weather, wishes, lambda hour: lambda one, other: (
        rows[hour].index(one) < rows[hour].index(other)
    ))


def own_hours(kinds, wish):
    """The hours of a wish's kind from the hour on at which it comes."""
    return {hour for hour in kinds[wish[0]][1] if hour >= wish[1]}


def all_ways(kinds, weather, wishes):
    """Every lot of looks that fit, each as a tuple."""
    ways = [()]
    for number, wish in enumerate(wishes):
        ways += [
            way + ((hour, number),) for way in ways for hour in sorted(own_hours(kinds, wish))
            if len([at for at, _ in way if at == hour]) < weather[hour]
        ]
    return [tuple(sorted(way)) for way in ways]


def most(kinds, weather, wishes, gain):
    """The most that looks that fit have, if each done wish gives what gain tells of its kind: a trial of all."""
    kept = {}

    def rest(number, left):
        if number == len(wishes):
            return 0
        if (number, left) not in kept:
            told = rest(number + 1, left)
            for hour in own_hours(kinds, wishes[number]):
                if left[hour]:
                    less = left[:hour] + (left[hour] - 1,) + left[hour + 1:]
                    told = max(told, gain(wishes[number][0]) + rest(number + 1, less))
            kept[number, left] = told
        return kept[number, left]

    return rest(0, tuple(weather))


def most_worth(kinds, weather, wishes):
    """The worth of a best night."""
    return most(kinds, weather, wishes, lambda kind: amount(kinds, kind))


def lows(kinds, wishes):
    """The worths that kinds of the wishes have, the greatest first."""
    return sorted({amount(kinds, kind) for kind, _ in wishes}, reverse=True)


def most_done(kinds, weather, wishes, low):
    """How many wishes worth at least low can be done."""
    return most(kinds, weather, [wish for wish in wishes if amount(kinds, wish[0]) >= low], lambda kind: 1)


def pair(fraction):
    """A fraction as the document writes it."""
    fraction = Fraction(fraction)
    return fraction.numerator, fraction.denominator


def had(kinds, wishes, looks):
    """The worth of looks that fit."""
    return sum((amount(kinds, wishes[number][0]) for _, number in looks), Fraction(0))


def is_line(kinds, weather, wishes, looks, low, line):
    """Whether a value is the line of a paper for the wishes worth at least low."""
    if type(line) is not tuple or len(line) != 2 or type(line[0]) is not tuple or type(line[1]) is not tuple:
        return False
    if line[0] != pair(low) or any(type(part) is not int for part in line[0] + line[1]):
        return False
    if not set(line[1]) <= set(range(len(weather))) or list(line[1]) != sorted(set(line[1])):
        return False
    worthy = [number for number, (kind, _) in enumerate(wishes) if amount(kinds, kind) >= low]
    done = [number for _, number in looks if number in worthy]
    beside = [number for number in worthy if own_hours(kinds, wishes[number]) - set(line[1])]
    return len(done) == sum(weather[hour] for hour in line[1]) + len(beside)


def right_best(kinds, weather, wishes, ways, value):
    """Whether a value is right as what best tells; ways are all lots of looks that fit."""
    if type(value) is not tuple or len(value) != 3:
        return False
    told, looks, paper = value
    if type(told) is not tuple or len(told) != 2 or any(type(part) is not int for part in told):
        return False
    if looks not in ways or any(type(part) is not int for look in looks for part in look):
        return False
    if told != pair(had(kinds, wishes, looks)) or any(had(kinds, wishes, way) > Fraction(*told) for way in ways):
        return False
    steps = lows(kinds, wishes)
    if type(paper) is not tuple or len(paper) != len(steps):
        return False
    return all(is_line(kinds, weather, wishes, looks, low, line) for low, line in zip(steps, paper))
