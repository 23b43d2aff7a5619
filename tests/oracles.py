"""What the document says, told anew for the tests, in other ways than the package goes."""

from fractions import Fraction
from itertools import combinations, permutations, product

from wheneverclear.books import hours_of, worth


def kinds_of(book):
    """{name: (worth, hours)} of a book."""
    return {name: (worth(book, name), hours_of(book, name)) for name in book.names}


def amount(kinds, kind):
    """The worth of a kind."""
    return Fraction(*kinds[kind][0])


def up_at(kinds, hour):
    """The kinds that are up at an hour."""
    return {kind for kind in kinds if hour in kinds[kind][1]}


def later_of(kinds, kind, hour):
    """The later hours of a kind."""
    return {own for own in kinds[kind][1] if own > hour}


def ahead(kinds, one, other, hour):
    """Whether one is ahead of other, both being up."""
    return amount(kinds, one) >= amount(kinds, other) and later_of(kinds, one, hour) <= later_of(kinds, other, hour)


def do_quarrel(kinds, one, other, hour):
    """Whether two kinds quarrel at an hour."""
    if not {one, other} <= up_at(kinds, hour):
        return False
    return not ahead(kinds, one, other, hour) and not ahead(kinds, other, one, hour)


def all_quarrels(kinds, hours):
    """Every (one, other, hour) of two kinds that quarrel, in both sequences."""
    return {
        (one, other, hour) for one in kinds for other in kinds for hour in range(hours)
        if do_quarrel(kinds, one, other, hour)
    }


def is_number(value, most):
    """Whether a value is an integer from 0 to most."""
    return type(value) is int and 0 <= value <= most


def is_row(kinds, hour, row):
    """Whether a value is a row of the kinds that are up, each ahead of all behind it."""
    if type(row) is not tuple or row not in list(permutations(up_at(kinds, hour))):
        return False
    return all(ahead(kinds, one, other, hour) for place, one in enumerate(row) for other in row[place:])


def had_after(kinds, one, other, hour, after):
    """What who looks at one has in the end."""
    clear = [hour + 1 + place for place, look in enumerate(after) if look]
    return amount(kinds, one) + (amount(kinds, other) if set(clear) & later_of(kinds, other, hour) else 0)


def right_agrees(kinds, hours, value):
    """Whether a value is right as what agrees tells."""
    if type(value) is not tuple or not value or type(value[0]) is not str:
        return False
    if value[0] == "agrees" and len(value) == 2:
        rows = value[1]
        return type(rows) is tuple and len(rows) == hours and all(map(is_row, [kinds] * hours, range(hours), rows))
    if value[0] != "quarrels" or len(value) != 6:
        return False
    one, other, hour, after_one, after_other = value[1:]
    if type(one) is not str or type(other) is not str or type(hour) is not int:
        return False
    if (one, other, hour) not in all_quarrels(kinds, hours):
        return False
    for after in (after_one, after_other):
        if type(after) is not tuple or len(after) != hours - hour - 1 or not all(is_number(part, 1) for part in after):
            return False
    return (
        had_after(kinds, one, other, hour, after_one) < had_after(kinds, other, one, hour, after_one)
        and had_after(kinds, other, one, hour, after_other) < had_after(kinds, one, other, hour, after_other)
    )


def stands_before(kinds, hour):
    """A function: whether, by the rule, one kind stands ahead of another one in the row."""
    def before(one, other):
        if amount(kinds, one) != amount(kinds, other):
            return amount(kinds, one) > amount(kinds, other)
        return len(later_of(kinds, one, hour)) < len(later_of(kinds, other, hour))
    return before


def first_of(numbers, kind_of, before):
    """The number that stands first: no other one stands before it, and of equal ones it is the least."""
    for number in sorted(numbers):
        if not any(before(kind_of(other), kind_of(number)) for other in numbers):
            return number
    raise AssertionError("nobody stands first")


def taken(numbers, kind_of, before, clear):
    """As many of the first ones as are clear."""
    left, told = list(numbers), []
    while left and len(told) < clear:
        told.append(first_of(left, kind_of, before))
        left.remove(told[-1])
    return sorted(told)


def led_anew(kinds, weather, wishes, before_at):
    """The looks of who takes the first ones, hour by hour; before_at(hour) tells who stands before whom."""
    looks = []
    for hour, clear in enumerate(weather):
        waiting = [
            number for number, (kind, came) in enumerate(wishes)
            if came <= hour and kind in up_at(kinds, hour) and number not in [done for _, done in looks]
        ]
        looks += [(hour, number) for number in taken(waiting, lambda one: wishes[one][0], before_at(hour), clear)]
    return tuple(looks)


def rule_anew(kinds, weather, wishes):
    """The looks of the rule."""
    return led_anew(kinds, weather, wishes, lambda hour: stands_before(kinds, hour))


def chooser_anew(kinds, rows, weather, wishes):
    """The looks of a chooser."""
    return led_anew(kinds, weather, wishes, lambda hour: lambda one, other: (
        rows[hour].index(one) < rows[hour].index(other)
    ))


def own_hours(kinds, wish):
    """The hours of a wish's kind from the hour on at which it comes."""
    return {hour for hour in kinds[wish[0]][1] if hour >= wish[1]}


def all_ways(kinds, weather, wishes):
    """Every lot of looks that fit, each as a tuple."""
    ways = [()]
    for number, wish in enumerate(wishes):
        ways += [
            way + ((hour, number),) for way in ways for hour in sorted(own_hours(kinds, wish))
            if len([at for at, _ in way if at == hour]) < weather[hour]
        ]
    return [tuple(sorted(way)) for way in ways]


def most(kinds, weather, wishes, gain):
    """The most that looks that fit have, if each done wish gives what gain tells of its kind: a trial of all."""
    kept = {}

    def rest(number, left):
        if number == len(wishes):
            return 0
        if (number, left) not in kept:
            told = rest(number + 1, left)
            for hour in own_hours(kinds, wishes[number]):
                if left[hour]:
                    less = left[:hour] + (left[hour] - 1,) + left[hour + 1:]
                    told = max(told, gain(wishes[number][0]) + rest(number + 1, less))
            kept[number, left] = told
        return kept[number, left]

    return rest(0, tuple(weather))


def most_worth(kinds, weather, wishes):
    """The worth of a best night."""
    return most(kinds, weather, wishes, lambda kind: amount(kinds, kind))


def lows(kinds, wishes):
    """The worths that kinds of the wishes have, the greatest first."""
    return sorted({amount(kinds, kind) for kind, _ in wishes}, reverse=True)


def most_done(kinds, weather, wishes, low):
    """How many wishes worth at least low can be done."""
    return most(kinds, weather, [wish for wish in wishes if amount(kinds, wish[0]) >= low], lambda kind: 1)


def pair(fraction):
    """A fraction as the document writes it."""
    fraction = Fraction(fraction)
    return fraction.numerator, fraction.denominator


def had(kinds, wishes, looks):
    """The worth of looks that fit."""
    return sum((amount(kinds, wishes[number][0]) for _, number in looks), Fraction(0))


def is_line(kinds, weather, wishes, looks, low, line):
    """Whether a value is the line of a paper for the wishes worth at least low."""
    if type(line) is not tuple or len(line) != 2 or type(line[0]) is not tuple or type(line[1]) is not tuple:
        return False
    if line[0] != pair(low) or any(type(part) is not int for part in line[0] + line[1]):
        return False
    if not set(line[1]) <= set(range(len(weather))) or list(line[1]) != sorted(set(line[1])):
        return False
    worthy = [number for number, (kind, _) in enumerate(wishes) if amount(kinds, kind) >= low]
    done = [number for _, number in looks if number in worthy]
    beside = [number for number in worthy if own_hours(kinds, wishes[number]) - set(line[1])]
    return len(done) == sum(weather[hour] for hour in line[1]) + len(beside)


def right_best(kinds, weather, wishes, ways, value):
    """Whether a value is right as what best tells; ways are all lots of looks that fit."""
    if type(value) is not tuple or len(value) != 3:
        return False
    told, looks, paper = value
    if type(told) is not tuple or len(told) != 2 or any(type(part) is not int for part in told):
        return False
    if looks not in ways or any(type(part) is not int for look in looks for part in look):
        return False
    if told != pair(had(kinds, wishes, looks)) or any(had(kinds, wishes, way) > Fraction(*told) for way in ways):
        return False
    steps = lows(kinds, wishes)
    if type(paper) is not tuple or len(paper) != len(steps):
        return False
    return all(is_line(kinds, weather, wishes, looks, low, line) for low, line in zip(steps, paper))


def due_of(wishes, hour):
    """The wishes that are due at an hour."""
    return [wish for wish in wishes if wish[1] <= hour]


def most_due(kinds, hours, wishes, hour, clear):
    """How many due wishes can be done in these clear hours: a trial of all ways."""
    weather = [1 if at in clear else 0 for at in range(hours)]
    return most(kinds, weather, due_of(wishes, hour), lambda kind: 1)


def matched(kinds, wishes, hour, clear):
    """How many due wishes can be done in these clear hours, of great nights: by leading in one behind another."""
    taken_by = {}

    def lead(number, seen):
        for at in sorted(own_hours(kinds, due[number]) & set(clear) - seen):
            seen.add(at)
            if at not in taken_by or lead(taken_by[at], seen):
                taken_by[at] = number
                return True
        return False

    due = due_of(wishes, hour)
    return sum(lead(number, set()) for number in range(len(due)))


def lots_of_hours(hours, hour, clear):
    """Every lot of so many hours from hour on."""
    return combinations(range(hour, hours), clear)


def least_due(kinds, hours, wishes, hour, clear):
    """How many due wishes can be done, whichever so many hours are clear: a trial of all lots of hours."""
    return min(most_due(kinds, hours, wishes, hour, lot) for lot in lots_of_hours(hours, hour, clear))


def fewest_clear(kinds, hours, wishes, hour):
    """How few clear hours are enough: a trial of all lots of hours."""
    many = len(due_of(wishes, hour))
    for clear in range(hours - hour + 1):
        if least_due(kinds, hours, wishes, hour, clear) == many:
            return clear
    return None


def is_lot(kinds, value):
    """Whether a value is an ascending tuple of names of kinds."""
    if type(value) is not tuple or any(type(part) is not str or part not in kinds for part in value):
        return False
    return list(value) == sorted(set(value))


def right_why_enough(kinds, hours, wishes, hour, told, value):
    """Whether a value is right as what why_enough tells, where enough tells what is told."""
    due = due_of(wishes, hour)
    if type(value) is not tuple or not value or type(value[0]) is not str:
        return False
    if not due:
        return value == ("nothing",)
    if len(value) != 2 or value[0] != "lot" or not is_lot(kinds, value[1]):
        return False
    many = len([wish for wish in due if wish[0] in value[1]])
    own = len([at for at in range(hour, hours) if any(at in kinds[kind][1] for kind in value[1])])
    if told is None:
        return many > own
    return many > 0 and hours - hour - own + many == told


def are_hours_from(hours, hour, value):
    """Whether a value is an ascending tuple of unlike hours from hour on."""
    if type(value) is not tuple or any(not is_number(part, hours - 1) or part < hour for part in value):
        return False
    return list(value) == sorted(set(value))


def choices_at(kinds, wished, hour, done):
    """What can be chosen: None, and the numbers of wishes that are up, and not done."""
    return [None] + [at for at, kind in enumerate(wished) if hour in kinds[kind][1] and at not in done]


def lost_at_end(kinds, wished, weather, done):
    """What is lost when all hours are over."""
    best = most_worth(kinds, weather, [(kind, 0) for kind in wished])
    return best - sum((amount(kinds, wished[number]) for number in done), Fraction(0))


def game(kinds, hours, wished):
    """What must be lost at worst, by both sides' best ways."""
    ends = {}

    def end(weather, done):
        if (weather, done) not in ends:
            ends[weather, done] = lost_at_end(kinds, wished, weather, done)
        return ends[weather, done]

    def play(weather, done):
        if len(weather) == hours:
            return end(weather, done)
        clear = [
            play(weather + (1,), done | ({choice} - {None}))
            for choice in choices_at(kinds, wished, len(weather), done)
        ]
        return max(play(weather + (0,), done), min(clear))

    return play((), frozenset())


def all_plans(kinds, hours, wished, hour=0, done=frozenset()):
    """Every plan from an hour on."""
    if hour == hours:
        return [()]
    cloudy = all_plans(kinds, hours, wished, hour + 1, done)
    told = []
    for choice in choices_at(kinds, wished, hour, done):
        clear = all_plans(kinds, hours, wished, hour + 1, done | ({choice} - {None}))
        told += [(choice, one, other) for one in clear for other in cloudy]
    return told


def all_storms(kinds, hours, wished, hour=0, done=frozenset()):
    """Every storm from an hour on."""
    if hour == hours:
        return [()]
    told = [(0, storm) for storm in all_storms(kinds, hours, wished, hour + 1, done)]
    choices = choices_at(kinds, wished, hour, done)
    answers = [all_storms(kinds, hours, wished, hour + 1, done | ({choice} - {None})) for choice in choices]
    return told + [(1, tuple(zip(choices, lot))) for lot in product(*answers)]


def played(kinds, wished, plan, weather):
    """What a plan loses by a weather."""
    done = []
    for clear in weather:
        choice, if_clear, if_cloudy = plan
        if clear and choice is not None:
            done.append(choice)
        plan = if_clear if clear else if_cloudy
    return lost_at_end(kinds, wished, weather, done)


def most_lost(kinds, hours, wished, plan):
    """The greatest that a plan can lose: a trial of all weathers."""
    return max(played(kinds, wished, plan, weather) for weather in product((0, 1), repeat=hours))


def least_lost(kinds, wished, storm, weather=(), done=()):
    """The least that is lost against a storm: a trial of all choices."""
    if storm == ():
        return lost_at_end(kinds, wished, weather, done)
    if storm[0] == 0:
        return least_lost(kinds, wished, storm[1], weather + (0,), done)
    return min(
        least_lost(kinds, wished, rest, weather + (1,), done if choice is None else done + (choice,))
        for choice, rest in storm[1]
    )


def against(kinds, wished, plan, storm):
    """What is lost if a plan is played against a storm."""
    weather, done = (), ()
    while storm != ():
        clear, rest = storm
        choice, if_clear, if_cloudy = plan
        if clear and choice is not None:
            done += (choice,)
        storm = dict(rest)[choice] if clear else rest
        plan = if_clear if clear else if_cloudy
        weather += (clear,)
    assert plan == ()
    return lost_at_end(kinds, wished, weather, done)


def lots_of_kinds(kinds):
    """Every lot of kinds, each ascending."""
    return [lot for many in range(len(kinds) + 1) for lot in combinations(sorted(kinds), many)]


def is_calm(kinds, hours, lot):
    """Whether no two of these kinds quarrel at any hour."""
    return not any(do_quarrel(kinds, one, other, hour) for one in lot for other in lot for hour in range(hours))


def greatest_parts(kinds, hours):
    """All parts that are within no other one, ascending."""
    calm = [lot for lot in lots_of_kinds(kinds) if is_calm(kinds, hours, lot)]
    return tuple(sorted(lot for lot in calm if not any(set(lot) < set(other) for other in calm)))


def quarrels_with_some(kinds, hours, kind, worth_put_in):
    """Whether a kind quarrels with some other one, if it has this worth."""
    kinds = {**kinds, kind: (pair(worth_put_in), kinds[kind][1])}
    return any(do_quarrel(kinds, kind, other, hour) for other in kinds for hour in range(hours))
