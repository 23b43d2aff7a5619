"""All errors of the program; each keeps the value that it tells of."""


class NightError(ValueError):
    """What all errors of the program derive from."""

    def __init__(self, value):
        self.value = value


class BadBook(NightError):
    """A line of a book's text cannot stand: its number."""


class NoKind(NightError):
    """What is not the name of a kind of the book."""


class NoHour(NightError):
    """What is not the number of an hour of the book."""


class Last(NightError):
    """The only kind of a book is not taken out."""


class BadName(NightError):
    """What is not a name."""


class There(NightError):
    """A name that a kind of the book has."""


class BadWorth(NightError):
    """What is not the worth that a kind can have."""


class BadHours(NightError):
    """What is not a tuple of such hours as are asked for."""


class TooMany(NightError):
    """How many there would be: one more than can be."""


class BadWeather(NightError):
    """What is not a weather of the book."""


class BadWishes(NightError):
    """What are not wishes of the book."""


class BadLooks(NightError):
    """What are not looks at these wishes."""


class NotUp(NightError):
    """A kind that is not up at the hour."""


class BadKinds(NightError):
    """What are not such kinds as are asked for."""


class BadClear(NightError):
    """What is not a number of clear telescopes."""


class BadChooser(NightError):
    """A line of a chooser's text cannot stand: its number."""


class BadNumber(NightError):
    """What is not a number of clear hours."""


class TooLong(NightError):
    """How many hours a book has: more than a game lets."""


class BadPlan(NightError):
    """What is not a plan for the telescope."""


class Same(NightError):
    """A kind that is asked for twice, where two are needed."""


class Over(NightError):
    """The night is over."""


class NothingToUndo(NightError):
    """Nothing is there that could be taken back."""


class BadRest(NightError):
    """What is not a weather for the rest of the night."""


class NothingToRedo(NightError):
    """Nothing is there that could be done again."""


class NoTrial(NightError):
    """There is no block whose deeds could be kept."""


class BadJournal(NightError):
    """A line of a journal cannot stand: its number."""


class BadWords(NightError):
    """A line that a desk does not understand."""
