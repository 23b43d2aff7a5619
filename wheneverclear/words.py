"""What integers, fractions, names and hours are, and how texts write them."""

from math import gcd, lcm

LETTERS = "abcdefghijklmnopqrstuvwxyz"
MOST_LETTERS = 6

# Python reads no integers of some thousand figures, and no text needs such.
MOST_FIGURES = 900


def is_integer(value):
    """Whether a value is an integer: True and False are none."""
    return isinstance(value, int) and not isinstance(value, bool)


def is_within(value, low, high):
    """Whether a value is an integer from low to high."""
    return is_integer(value) and low <= value <= high


def is_pair(value):
    """Whether a value is a tuple of two."""
    return isinstance(value, tuple) and len(value) == 2


def is_fraction(value):
    """Whether a value is a tuple (top, bottom) in least terms."""
    if not is_pair(value) or not is_integer(value[0]) or not is_integer(value[1]):
        return False
    top, bottom = value
    return bottom >= 1 and gcd(top, bottom) == 1


def is_name(value):
    """Whether a value is a string that can be the name of a kind."""
    if not isinstance(value, str) or not 1 <= len(value) <= MOST_LETTERS:
        return False
    return all([sign in LETTERS for sign in value])


def is_ascending(rows):
    """Whether each of what can be compared is less than the next one."""
    return all([one < other for one, other in zip(rows, rows[1:])])


def in_least_terms(top, bottom):
    """The fraction of two integers, the second one above 0."""
    shared = gcd(top, bottom)
    return top // shared, bottom // shared


def added(one, other):
    """The sum of two fractions."""
    return in_least_terms(one[0] * other[1] + other[0] * one[1], one[1] * other[1])


def less_by(one, other):
    """What is left of a fraction if another one is taken off."""
    return added(one, (-other[0], other[1]))


def is_less(one, other):
    """Whether a fraction is less than another one."""
    return one[0] * other[1] < other[0] * one[1]


def shared_bottom(fractions):
    """The least bottom over which all of these fractions can stand."""
    bottom = 1
    for _, under in fractions:
        bottom = lcm(bottom, under)
    return bottom


def tops_over(bottom, fractions):
    """Integers, by the same names, that are the tops of the fractions over this bottom."""
    return {name: top * (bottom // under) for name, (top, under) in fractions.items()}


def integer_of(word):
    """The integer that a word tells as Python writes it, otherwise None."""
    figures = word.removeprefix("-")
    if not figures.isdecimal() or len(figures) > MOST_FIGURES:
        return None
    number = int(word)
    # Zeros in front, the sign of -0, and other scripts' figures are not as Python writes them.
    return number if str(number) == word else None


def fraction_of(word):
    """The fraction that a word tells, otherwise None."""
    top, slash, bottom = word.partition("/")
    if not slash:
        bottom = "1"
    elif bottom == "1":
        return None
    fraction = (integer_of(top), integer_of(bottom))
    return fraction if is_fraction(fraction) else None


def fraction_text(fraction):
    """The word that tells a fraction."""
    top, bottom = fraction
    return f"{top}" if bottom == 1 else f"{top}/{bottom}"


def span_of(word):
    """The first and the last hour of the span that a word tells, otherwise None."""
    low, dash, high = word.partition("-")
    first = integer_of(low)
    last = integer_of(high) if dash else first
    if first is None or last is None:
        return None
    if dash and last <= first:
        return None
    return first, last


def hours_of_spans(words, hours):
    """The hours, all below hours, that a row of spans tells, otherwise None."""
    told = []
    for word in words:
        span = span_of(word)
        # Spans that touch would be one span.
        free = told[-1] + 2 if told else 0
        if span is None or span[0] < free or span[1] >= hours:
            return None
        told = told + list(range(span[0], span[1] + 1))
    return tuple(told)


def spans_of_hours(hours):
    """The row of spans that tells ascending hours."""
    spans = []
    for hour in hours:
        if spans and spans[-1][1] == hour - 1:
            spans[-1] = (spans[-1][0], hour)
        else:
            spans.append((hour, hour))
    return " ".join([span_text(first, last) for first, last in spans])


def span_text(first, last):
    """The word that tells the hours from first to last."""
    return f"{first}" if first == last else f"{first}-{last}"
