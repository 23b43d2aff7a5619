"""Journals: the text of a bench, with the book with which it began, and the deeds that stand."""

from wheneverclear.bench import Bench
from wheneverclear.errors import BadBook, BadJournal, NightError
from wheneverclear.words import fraction_of, hours_of_spans

DEEDS = ("add", "cut", "price")
MOST_HOURS_TOLD = 100


def journal(bench):
    """The text that tells a bench."""
    return "\n".join(["bench"] + [line for line, _ in bench.steps])


def deed_of(line):
    """(word, argument ..) of the deed that a line tells, otherwise None."""
    words = line.split(" ")
    if "" in words:
        return None
    if words[0] == "cut" and len(words) == 2:
        return "cut", words[1]
    if words[0] == "price" and len(words) == 3:
        amount = fraction_of(words[2])
        return None if amount is None else ("price", words[1], amount)
    if words[0] == "add" and len(words) >= 4:
        amount, hours = fraction_of(words[2]), hours_of_spans(words[3:], MOST_HOURS_TOLD)
        return None if amount is None or hours is None else ("add", words[1], amount, hours)
    return None


def do_deed(bench, deed):
    """Do a deed, told as deed_of tells it, on a bench."""
    if deed[0] == "cut":
        bench.cut(deed[1])
    elif deed[0] == "price":
        bench.price(deed[1], deed[2])
    else:
        bench.add(deed[1], deed[2], deed[3])


def read_journal(text):
    """The bench that a journal tells."""
    if not isinstance(text, str):
        raise BadJournal(0)
    lines = text.split("\n")
    if lines[0] != "bench":
        raise BadJournal(1)
    deeds = [place for place, line in enumerate(lines) if line.split(" ")[0] in DEEDS]
    end = deeds[0] if deeds else len(lines)
    bench = _begun("\n".join(lines[1:end]))
    for number, line in enumerate(lines[end:], start=end + 1):
        if not _is_done(bench, line):
            raise BadJournal(number)
    return bench


def _begun(text):
    """The bench that begins with the book of a journal."""
    try:
        return Bench(text)
    except BadBook as error:
        # The journal has one line ahead of the book's ones.
        raise BadJournal(error.value + 1) from None


def _is_done(bench, line):
    """Do the deed that a line tells; whether there is one, and it is not refused."""
    deed = deed_of(line)
    if deed is None:
        return False
    try:
        do_deed(bench, deed)
    except NightError:
        return False
    return True
