"""The least values of kinds, as value trees."""
from widestkind.kindwalks import folded
from widestkind.shapes import parts_of
from widestkind.trees import text_of

ZERO = ("number", 0, None)
NOTHING = ("record", ())
GAP = ("fn", "x", ("fail", "gap"))
LETTERS = "ABCDEFGHIJKLMNOPQRSTUVWXYZ"


def other_tag(book, tags):
    """A tag that is none of some tags and no constructor of a book."""
    for first in LETTERS:
        for further in " " + LETTERS.lower():
            tag = (first + further).strip()
            if tag not in tags and book.kind_of(tag) is None:
                return tag
    return None


class LeastValues:
    """Works out the least values of kinds of a book. Kind names stand for the record without entries.

    `known` has those of own kinds, by their names and by the texts of the values of the kinds with which they are.
    """

    def __init__(self, book):
        self.book = book
        self.known = {}

    def of(self, kind):
        """The least value of a kind, or None if it is empty."""
        return self._least_within(kind, {})

    def _least_within(self, kind, table):
        """The least value of a kind, where a dict has the values of some names."""
        def combined(part, inner):
            if part[0] == "num":
                return ZERO
            if part[0] == "fn":
                return GAP
            if part[0] == "name":
                return table.get(part[1], NOTHING)
            if part[0] == "own":
                return self._of_own(part[1], inner)
            if part[0] == "variant":
                return self._of_variant(part, inner)
            if None in inner:
                return None
            return ("record", tuple([(entry[0], value) for entry, value in zip(part[1], inner)]))

        return folded(kind, combined)

    def _of_variant(self, kind, inner):
        """The least value of a variant; a constructor is the tag of no value."""
        if kind[2] is not None:
            return ("tag", other_tag(self.book, [tag for tag, _ in kind[1]]), NOTHING)
        found = []
        for entry, value in zip(kind[1], inner):
            if value is not None and self.book.kind_of(entry[0]) is None:
                found.append(("tag", entry[0], value))
        return smallest(found)

    def _of_own(self, name, values):
        """The least value of an own kind with kinds of which the least values are told.

        It has no part of the same kind, so that this kind may be taken to be empty within its contents.
        """
        key = (name, *["" if value is None else text_of(value) for value in values])
        if key not in self.known:
            self.known[key] = None
            table = dict(zip(self.book.parameters(name), values))
            found = []
            for tag in self.book.constructors(name):
                value = self._least_within(self.book.kind_of(tag)[2], table)
                if value is not None:
                    found.append(("tag", tag, value))
            self.known[key] = smallest(found)
        return self.known[key]


def smallest(values):
    """The first value with the fewest parts, or None if there are none."""
    found = None
    least = 0
    for value in values:
        many = len(parts_of(value))
        if found is None or many < least:
            found = value
            least = many
    return found


