"""What must be lost at worst: the game of the telescope against the weather."""

from wheneverclear.best import best
from wheneverclear.books import is_kind
from wheneverclear.errors import BadKinds, BadPlan, TooLong
from wheneverclear.words import in_least_terms, is_integer, is_pair, is_within

MOST_HOURS = 6
MOST_KINDS = 4


class Game:
    """One telescope, and one wish of each of some kinds, all there from hour 0 on.

    A moment of the game is told by the weather so far, a tuple of 0 and 1, and by the numbers of the wishes that are
    done, ascending. What is had and lost is counted in weights.
    """

    def __init__(self, book, kinds):
        if book.hours > MOST_HOURS:
            raise TooLong(book.hours)
        if not isinstance(kinds, tuple) or len(kinds) > MOST_KINDS or not all([is_kind(book, kind) for kind in kinds]):
            raise BadKinds(kinds)
        self.book = book
        self.kinds = kinds
        self.hopes = {}
        self.due = {}

    def is_over(self, weather):
        """Whether all hours have gone by."""
        return len(weather) == self.book.hours

    def choices(self, weather, done):
        """What can be looked at in the next hour: nothing, or a wish that is up, and not done."""
        hour = len(weather)
        return [None] + [
            number for number, kind in enumerate(self.kinds)
            if number not in done and hour in self.book.kind_hours[kind]
        ]

    def weight(self, done):
        """What these wishes are worth."""
        return sum([self.book.weights[self.kinds[number]] for number in done])

    def hope(self, weather):
        """What somebody could have had who knew the weather of all hours."""
        if weather not in self.hopes:
            wishes = tuple([(kind, 0) for kind in self.kinds])
            _, looks, _ = best(self.book, weather, wishes)
            self.hopes[weather] = self.weight([number for _, number in looks])
        return self.hopes[weather]

    def lost(self, weather, done):
        """What is lost when all hours are over."""
        return self.hope(weather) - self.weight(done)

    def least(self, weather, done):
        """The least that must be lost at worst, from this moment on."""
        moment = (weather, done)
        if moment not in self.due:
            self.due[moment] = self._least(weather, done)
        return self.due[moment]

    def _least(self, weather, done):
        if self.is_over(weather):
            return self.lost(weather, done)
        return max(self.least(weather + (0,), done), self.least_if_clear(weather, done))

    def least_if_clear(self, weather, done):
        """The least that must be lost at worst if the next hour is clear."""
        return min([
            self.least(weather + (1,), _behind(done, choice)) for choice in self.choices(weather, done)
        ])

    def fraction(self, weight):
        """A weight as a fraction."""
        return in_least_terms(weight, self.book.bottom)


def _behind(done, choice):
    """What is done behind a choice."""
    return done if choice is None else tuple(sorted(done + (choice,)))


def loss(book, kinds):
    """The least fraction such that some plan never loses more."""
    game = Game(book, kinds)
    return game.fraction(game.least((), ()))


def plan_of(book, kinds):
    """A plan that never loses more than loss tells."""
    return _plan_from(Game(book, kinds), (), ())


def _plan_from(game, weather, done):
    if game.is_over(weather):
        return ()
    clear, cloudy = weather + (1,), weather + (0,)
    least = game.least_if_clear(weather, done)
    right = [one for one in game.choices(weather, done) if game.least(clear, _behind(done, one)) == least]
    return right[0], _plan_from(game, clear, _behind(done, right[0])), _plan_from(game, cloudy, done)


def shows_plan(book, kinds, value):
    """Whether any value is right as what plan_of tells."""
    game = Game(book, kinds)
    if not _is_plan(game, (), (), value):
        return False
    return _most_lost(game, (), (), value) == game.least((), ())


def lost_by(book, kinds, plan):
    """The greatest that a plan can lose, a fraction."""
    game = Game(book, kinds)
    if not _is_plan(game, (), (), plan):
        raise BadPlan(plan)
    return game.fraction(_most_lost(game, (), (), plan))


def _is_choice(value):
    return value is None or is_integer(value)


def _is_plan(game, weather, done, value):
    """Whether a value is a plan from this moment on."""
    if game.is_over(weather):
        return value == ()
    if not isinstance(value, tuple) or len(value) != 3:
        return False
    choice, clear, cloudy = value
    if not _is_choice(choice) or choice not in game.choices(weather, done):
        return False
    if not _is_plan(game, weather + (1,), _behind(done, choice), clear):
        return False
    return _is_plan(game, weather + (0,), done, cloudy)


def _most_lost(game, weather, done, plan):
    """The most that a plan can lose, from this moment on."""
    if game.is_over(weather):
        return game.lost(weather, done)
    choice, clear, cloudy = plan
    return max(
        _most_lost(game, weather + (1,), _behind(done, choice), clear),
        _most_lost(game, weather + (0,), done, cloudy),
    )


def storm_of(book, kinds):
    """A storm against which at least what loss tells is lost."""
    return _storm_from(Game(book, kinds), (), ())


def _storm_from(game, weather, done):
    if game.is_over(weather):
        return ()
    clear, cloudy = weather + (1,), weather + (0,)
    if game.least(cloudy, done) >= game.least_if_clear(weather, done):
        return 0, _storm_from(game, cloudy, done)
    return 1, tuple([
        (choice, _storm_from(game, clear, _behind(done, choice))) for choice in game.choices(weather, done)
    ])


def shows_storm(book, kinds, value):
    """Whether any value is right as what storm_of tells."""
    game = Game(book, kinds)
    if not _is_storm(game, (), (), value):
        return False
    return _least_lost(game, (), (), value) >= game.least((), ())


def _is_storm(game, weather, done, value):
    """Whether a value is a storm from this moment on."""
    if game.is_over(weather):
        return value == ()
    if not is_pair(value) or not is_within(value[0], 0, 1):
        return False
    clear, rest = value
    if clear == 0:
        return _is_storm(game, weather + (0,), done, rest)
    choices = game.choices(weather, done)
    if not isinstance(rest, tuple) or len(rest) != len(choices):
        return False
    return all([_is_answer(game, weather, done, choice, answer) for choice, answer in zip(choices, rest)])


def _is_answer(game, weather, done, choice, value):
    """Whether a value is (choice, storm), for this choice in a clear hour, and a storm behind it."""
    if not is_pair(value) or not _is_choice(value[0]) or value[0] != choice:
        return False
    return _is_storm(game, weather + (1,), _behind(done, choice), value[1])


def _least_lost(game, weather, done, storm):
    """The least that is lost against a storm, from this moment on, whatever is chosen."""
    if game.is_over(weather):
        return game.lost(weather, done)
    clear, rest = storm
    if clear == 0:
        return _least_lost(game, weather + (0,), done, rest)
    return min([_least_lost(game, weather + (1,), _behind(done, choice), behind) for choice, behind in rest])
