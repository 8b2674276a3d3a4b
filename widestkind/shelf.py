"""A shelf keeps the lines of a book, and looks anew only at what leans on a change."""
from widestkind.books import Book, book_of
from widestkind.demands import Demands, is_enough
from widestkind.errors import BadKind, BadName, NoSuch, NothingToRedo, NothingToUndo, TooMany
from widestkind.kinds import is_kind
from widestkind.lots import Lots
from widestkind.readings import State
from widestkind.shelflines import place_for, place_of, sorted_rows
from widestkind.words import is_plain_word

MOST_DEFINITIONS = 8


class Shelf:
    """The lines of a book, with all deeds that can be taken back or done again."""

    def __init__(self, text=""):
        book = Book(text)
        texts = text.split("\n") if text != "" else []
        rows, lines = sorted_rows(texts, book.lines_read())
        if rows != texts:
            book = book_of(lines, len(lines))
        self._states = [State(book, rows)]
        self._at = 0
        self._before = self._states[0]

    def _now(self):
        return self._states[self._at]

    def as_book(self):
        """The book of the lines."""
        return self._now().book

    def lines(self):
        """The list of the lines, as they were passed."""
        return list(self._now().rows)

    def names(self):
        """The ascending list of the names of the definitions."""
        return sorted(self.as_book().definitions())

    def _state_with(self, first, behind, texts):
        """The state with other texts in the place of the lines from one index up to another one.

        It raises what the book of the lines as they are then raises.
        """
        rows = self._now().rows
        lines = self.as_book().lines_read()
        book = book_of([*lines[:first], *texts, *lines[behind:]], first)
        return State(book, [*rows[:first], *texts, *rows[behind:]], self._now())

    def _state_put(self, line):
        """The state behind putting in a line."""
        first, behind = place_for(self.as_book().lines_read(), line)
        return self._state_with(first, behind, [line])

    def _do(self, state):
        """Does a deed that leads to a state."""
        self._before = self._now()
        self._states = [*self._states[:self._at + 1], state]
        self._at += 1

    def put(self, line):
        """Puts in a line, in the place of the one of the same sort and name if there is one."""
        self._do(self._state_put(line))

    def take(self, sort, name):
        """Takes out the line of a sort with a name."""
        index = place_of(self.as_book().lines_read(), sort, name)
        if index is None:
            raise NoSuch(name)
        self._do(self._state_with(index, index + 1, []))

    def verdict(self, name):
        """What is told of a definition: its kind, or why it has none."""
        if name not in self._now().told:
            raise NoSuch(name)
        return self._now().told[name]

    def verdicts(self):
        """The dict from all definitions, ascending, to their verdicts."""
        return {name: self.verdict(name) for name in self.names()}

    def looked(self):
        """The dict from the definitions that the last deed looked at to what was another thing in their readings."""
        return self._now().looked_since(self._before)

    def broke(self):
        """The ascending list of the definitions that lost their kinds by the last deed."""
        return self._now().broken_since(self._before)

    def healed(self):
        """The ascending list of the definitions that got kinds by the last deed."""
        return self._now().healed_since(self._before)

    def undo(self):
        """Takes back the last deed that is in effect."""
        if self._at == 0:
            raise NothingToUndo()
        self._before = self._now()
        self._at -= 1

    def redo(self):
        """Does again what was taken back last."""
        if self._at + 1 == len(self._states):
            raise NothingToRedo()
        self._before = self._now()
        self._at += 1

    def trial(self, line):
        """What `looked`, `broke` and `healed` would tell behind putting in a line."""
        before = self._now()
        state = self._state_put(line)
        return state.looked_since(before), state.broken_since(before), state.healed_since(before)

    def demand(self, user, name):
        """The list of the kind of a definition and of those that it asks of a name, or None if it has no kind."""
        if user == name or not self.as_book().defines(user):
            raise NoSuch(user)
        if not is_plain_word(name):
            raise BadName(name)
        return Demands(self._now(), name).demand(user)

    def would_fit(self, name, kind):
        """The ascending list of the other definitions for which it is enough that a name has a kind."""
        if not is_plain_word(name):
            raise BadName(name)
        if not is_kind(kind):
            raise BadKind(kind)
        demands = Demands(self._now(), name)
        return [user for user in self.names() if user != name and is_enough(demands.demand(user), kind)]

    def _lots(self):
        """The Lots of the definitions."""
        state = self._now()
        if state.lots_kept is None:
            state.lots_kept = Lots(state)
        return state.lots_kept

    def stands(self, names):
        """Whether all definitions of a list have kinds where all others are faults."""
        for name in names:
            if not self.as_book().defines(name):
                raise NoSuch(name)
        return self._lots().clash_in(self._lots().lot(names)) is None

    def _lots_and_cures(self):
        """The lists of all lots and of all cures."""
        if len(self.names()) > MOST_DEFINITIONS:
            raise TooMany(len(self.names()))
        return self._lots().lots_and_cures()

    def lots(self):
        """The list of all lots: the least sets of definitions that do not stand."""
        return [list(lot) for lot in self._lots_and_cures()[0]]

    def cures(self):
        """The list of all cures: the least sets of definitions without which the others stand."""
        return [list(cure) for cure in self._lots_and_cures()[1]]
