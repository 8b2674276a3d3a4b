"""A shelf keeps the lines of a book, and looks anew only at what leans on a change."""
from widestkind.books import Book
from widestkind.demands import copies_of, demanded, failing, stand_together
from widestkind.errors import BadKind, BadName, NoSuch, NothingToRedo, NothingToUndo, TooMany
from widestkind.fillings import common
from widestkind.hittings import met_too
from widestkind.kinds import is_kind
from widestkind.readings import State
from widestkind.shelflines import lines_of, lines_with, place_of
from widestkind.words import is_plain_word

MOST_DEFINITIONS = 8


class Shelf:
    """The lines of a book, with all deeds that can be taken back or done again."""

    def __init__(self, text=""):
        Book(text)
        lines = lines_of(text)
        self._states = [State(Book("\n".join(lines)), lines)]
        self._at = 0
        self._before = self._states[0]

    def _now(self):
        return self._states[self._at]

    def as_book(self):
        """The book of the lines."""
        return self._now().book

    def lines(self):
        """The list of the lines, as they were passed."""
        return list(self._now().rows)

    def names(self):
        """The ascending list of the names of the definitions."""
        return sorted(self.as_book().definitions())

    def _state_with(self, lines):
        """The state with other lines; raises what the book of these lines raises."""
        return State(Book("\n".join(lines)), lines, self._now())

    def _do(self, state):
        """Does a deed that leads to a state."""
        self._before = self._now()
        self._states = [*self._states[:self._at + 1], state]
        self._at += 1

    def put(self, line):
        """Puts in a line, in the place of the one of the same sort and name if there is one."""
        self._do(self._state_with(lines_with(self.lines(), line)))

    def take(self, sort, name):
        """Takes out the line of a sort with a name."""
        lines = self.lines()
        index = place_of(lines, sort, name)
        if index is None:
            raise NoSuch(name)
        self._do(self._state_with([*lines[:index], *lines[index + 1:]]))

    def verdict(self, name):
        """What is told of a definition: its kind, or why it has none."""
        if name not in self._now().told:
            raise NoSuch(name)
        return self._now().told[name]

    def verdicts(self):
        """The dict from all definitions, ascending, to their verdicts."""
        return {name: self.verdict(name) for name in self.names()}

    def looked(self):
        """The dict from the definitions that the last deed looked at to what was another thing in their readings."""
        return self._now().looked_since(self._before)

    def broke(self):
        """The ascending list of the definitions that lost their kinds by the last deed."""
        return self._now().broken_since(self._before)

    def healed(self):
        """The ascending list of the definitions that got kinds by the last deed."""
        return self._now().healed_since(self._before)

    def undo(self):
        """Takes back the last deed that is in effect."""
        if self._at == 0:
            raise NothingToUndo()
        self._before = self._now()
        self._at -= 1

    def redo(self):
        """Does again what was taken back last."""
        if self._at + 1 == len(self._states):
            raise NothingToRedo()
        self._before = self._now()
        self._at += 1

    def trial(self, line):
        """What `looked`, `broke` and `healed` would tell behind putting in a line."""
        before = self._now()
        state = self._state_with(lines_with(self.lines(), line))
        return state.looked_since(before), state.broken_since(before), state.healed_since(before)

    def demand(self, user, name):
        """The list of the kind of a definition and of those that it asks of a name, or None if it has no kind."""
        if user == name or user not in self.as_book().definitions():
            raise NoSuch(user)
        if not is_plain_word(name):
            raise BadName(name)
        return demanded(Book("\n".join(failing(self.lines(), [name]))), user, name)

    def would_fit(self, name, kind):
        """The ascending list of the other definitions for which it is enough that a name has a kind."""
        if not is_plain_word(name):
            raise BadName(name)
        if not is_kind(kind):
            raise BadKind(kind)
        found = []
        for user in self.names():
            asked = self.demand(user, name) if user != name else None
            if asked is not None and common(asked[1:], copies_of(kind, len(asked) - 1)) is not None:
                found.append(user)
        return found

    def stands(self, names):
        """Whether all definitions of a list have kinds where all others are faults."""
        there = self.names()
        for name in names:
            if name not in there:
                raise NoSuch(name)
        return stand_together(self.lines(), there, names)

    def _lots_and_cures(self):
        """The lists of all lots and of all cures.

        The least sets that meet the lots that are known are the cures if all others stand in each case; otherwise a
        further lot lies among these.
        """
        there = self.names()
        if len(there) > MOST_DEFINITIONS:
            raise TooMany(len(there))
        lots = []
        hits = [0]
        at = 0
        while at < len(hits):
            left = [name for index, name in enumerate(there) if not hits[at] >> index & 1]
            if self.stands(left):
                at += 1
                continue
            for name in there:
                less = [one for one in left if one != name]
                if len(less) < len(left) and not self.stands(less):
                    left = less
            lots.append(left)
            hits = met_too(hits, sum([1 << there.index(name) for name in left]))
            at = 0
        cures = [[one for index, one in enumerate(there) if hit >> index & 1] for hit in hits]
        return lots, cures

    def lots(self):
        """The list of all lots: the least sets of definitions that do not stand."""
        return in_order(self._lots_and_cures()[0])

    def cures(self):
        """The list of all cures: the least sets of definitions without which the others stand."""
        return in_order(self._lots_and_cures()[1])


def in_order(rows):
    """Ascending lists of names, those with fewer names first, then in ascending order."""
    return [row for _, row in sorted([(len(one), one) for one in rows])]
