"""A bench: a book under hands, whose deeds can be undone, done again, and tried."""

from wheneverclear.books import Book, with_kind, with_worth, without
from wheneverclear.errors import NoTrial, NothingToRedo, NothingToUndo
from wheneverclear.quarrels import agrees
from wheneverclear.words import fraction_text, spans_of_hours


class Trial:
    """A block behind which a bench is as it was ahead of it, unless it is kept."""

    def __init__(self, bench):
        self.bench = bench
        # None until it is kept.
        self.kept = None
        self.outer = None
        self.steps = bench.steps
        self.undone = bench.undone
        self.book = bench.book
        self.done = bench.done
        self.verdict = bench.verdict

    def __enter__(self):
        bench = self.bench
        # What counts is the bench as the block begins, not as trial() was called.
        self.outer = bench.block
        self.steps = bench.steps
        self.undone = bench.undone
        self.book = bench.book
        self.done = bench.done
        self.verdict = bench.verdict
        bench.block = self
        return bench

    def __exit__(self, kind, value, trace):
        bench = self.bench
        bench.block = self.outer
        if kind is not None or self.kept is None:
            bench.steps = self.steps
            bench.undone = self.undone
            bench.book = self.book
            bench.done = self.done
            bench.verdict = self.verdict


class Bench:
    """A book, and the deeds that were done on it."""

    def __init__(self, text):
        self.book = Book(text)
        self.done = 0
        self.verdict = agrees(self.book)[0]
        # The book's text and the book with which it began; then each deed's line and the book behind it.
        self.steps = ((self.book.text, self.book),)
        # What was taken back, and not done again: what was taken back last stands last.
        self.undone = ()
        # The innermost block, None outside of all of them.
        self.block = None

    def __eq__(self, other):
        # Lines tell the books behind them, so steps are equal just if the journals are.
        return isinstance(other, Bench) and self.steps == other.steps

    def _stand_at(self, steps, undone):
        """Let just these deeds stand, and these be undone."""
        self.steps = steps
        self.undone = undone
        self.book = steps[-1][1]
        self.done = len(steps) - 1
        self.verdict = agrees(self.book)[0]

    def _do(self, line, book):
        """Do one deed more, behind which nothing can be done again."""
        self._stand_at(self.steps + ((line, book),), ())

    def add(self, name, amount, hours):
        """Put a kind behind all others."""
        book = with_kind(self.book, name, amount, hours)
        self._do(f"add {name} {fraction_text(amount)} {spans_of_hours(hours)}", book)

    def cut(self, kind):
        """Take a kind out."""
        book = without(self.book, kind)
        self._do(f"cut {kind}", book)

    def price(self, kind, amount):
        """Give a kind this worth."""
        book = with_worth(self.book, kind, amount)
        self._do(f"price {kind} {fraction_text(amount)}", book)

    def undo(self):
        """Take the last deed back that stands."""
        if len(self.steps) == 1:
            raise NothingToUndo(None)
        self._stand_at(self.steps[:-1], self.undone + self.steps[-1:])

    def redo(self):
        """Do the deed again that was taken back last."""
        if not self.undone:
            raise NothingToRedo(None)
        self._stand_at(self.steps + self.undone[-1:], self.undone[:-1])

    def trial(self):
        """A block, to be entered once, behind which the bench is as it was, unless keep is called in it."""
        return Trial(self)

    def keep(self):
        """Let stand what is done in the innermost block, if no error leaves it."""
        block = self.block
        if block is None:
            raise NoTrial(None)
        block.kept = True

    def tried(self, look, *, keep=False):
        """What look returns, called with the bench within a block of its own."""
        with self.trial() as held:
            told = look(held)
            if keep is True:
                held.keep()
        return told

    def copy(self):
        """A bench of its own, alike in all things, outside of all blocks."""
        other = Bench(self.book.text)
        other._stand_at(self.steps, self.undone)
        return other
