"""An observatory led hour by hour: a night that goes by as wishes and weather come."""

from wheneverclear.best import best_worth
from wheneverclear.books import check_kind
from wheneverclear.errors import BadClear, BadRest, NothingToUndo, Over, TooMany
from wheneverclear.nights import MOST_WISHES, is_weather, worth_of
from wheneverclear.rule import night, worth_had
from wheneverclear.words import is_within, less_by


class Night:
    """A night of a book, as far as it has gone by, in which the rule looks."""

    def __init__(self, book):
        self.book = book
        self.now = 0
        self.wishes = ()
        self.weather = ()
        self.looks = ()
        self.worth = (0, 1)
        # What came, in sequence: True for a wish, False for an hour.
        self.came = ()

    def _stand_at(self, wishes, weather, came):
        """Let just this have come, and the rule have looked by it."""
        self.now = len(weather)
        self.wishes = wishes
        self.weather = weather
        self.looks = night(self.book, self._with_rest(weather), wishes)
        self.worth = worth_of(self.book, wishes, self.looks)
        self.came = came

    def _with_rest(self, weather):
        """The weather of the whole night with nothing clear behind what is told."""
        return weather + (0,) * (self.book.hours - len(weather))

    def wish(self, kind):
        """A wish of this kind comes: its number."""
        check_kind(self.book, kind)
        number = len(self.wishes)
        if self.now == self.book.hours:
            raise Over(None)
        if number == MOST_WISHES:
            raise TooMany(MOST_WISHES + 1)
        # The book's own string is kept, whatever class derived from it was handed in.
        name = self.book.names[self.book.names.index(kind)]
        self._stand_at(self.wishes + ((name, self.now),), self.weather, self.came + (True,))
        return number

    def hour(self, clear):
        """The next hour goes by: the numbers of the wishes that are looked at."""
        if not is_within(clear, 0, self.book.telescopes):
            raise BadClear(clear)
        hour = self.now
        if hour == self.book.hours:
            raise Over(None)
        self._stand_at(self.wishes, self.weather + (int(clear),), self.came + (False,))
        return tuple([number for at, number in self.looks if at == hour])

    def undo(self):
        """Take the last wish, or hour, back."""
        if not self.came:
            raise NothingToUndo(None)
        if self.came[-1]:
            self._stand_at(self.wishes[:-1], self.weather, self.came[:-1])
        else:
            self._stand_at(self.wishes, self.weather[:-1], self.came[:-1])

    def lost(self):
        """How much more could be had by what came so far, if from now on nothing is clear."""
        return less_by(best_worth(self.book, self._with_rest(self.weather), self.wishes), self.worth)

    def at_least(self, rest):
        """The worth at the end of the night if just so much is clear, and no wish comes any more."""
        if not isinstance(rest, tuple) or not is_weather(self.book, self.weather + rest):
            raise BadRest(rest)
        return worth_had(self.book, self.weather + rest, self.wishes)

    def copy(self):
        """A night of its own, alike in all things."""
        other = Night(self.book)
        other._stand_at(self.wishes, self.weather, self.came)
        return other
