"""The least values of kinds, as value trees."""
from widestkind.kindwalks import folded

LETTERS = "ABCDEFGHIJKLMNOPQRSTUVWXYZ"


def other_tag(book, tags):
    """A tag that is none of some tags and no constructor of a book."""
    for first in LETTERS:
        for further in " " + LETTERS.lower():
            tag = (first + further).strip()
            if tag not in tags and book.kind_of(tag) is None:
                return tag
    return None


class LeastValues:
    """Works out the least values of kinds of a book. Kind names stand for the record without entries.

    Values are known by numbers, so that equal ones are built but once; `trees` and `sizes` have their trees, and how
    many parts these have. `known` has the numbers of the values of own kinds, by their names and by the numbers of
    the values of the kinds with which they are.
    """

    def __init__(self, book):
        self.book = book
        self.known = {}
        self.numbers = {}
        self.trees = []
        self.sizes = []

    def of(self, kind):
        """The number of the least value of a kind, or None if it is empty."""
        return self._least_within(kind, {})

    def tree_with(self, number):
        """The value with a number."""
        return self.trees[number]

    def _number(self, key, tree, size):
        """The number of a value with a key of its own."""
        if key not in self.numbers:
            self.numbers[key] = len(self.trees)
            self.trees.append(tree)
            self.sizes.append(size)
        return self.numbers[key]

    def _tagged(self, tag, number):
        """The number of a tag with the value with a number as its content."""
        return self._number(("tag", tag, number), ("tag", tag, self.trees[number]), 1 + self.sizes[number])

    def _of_record(self, labels, numbers):
        """The number of a record of the values with some numbers, or None if one of these is None."""
        if None in numbers:
            return None
        entries = tuple([(label, self.trees[number]) for label, number in zip(labels, numbers)])
        size = 1 + sum([self.sizes[number] for number in numbers])
        return self._number(("record", *labels, *numbers), ("record", entries), size)

    def _least_within(self, kind, table):
        """The number of the least value of a kind, where a dict has those of some names."""
        def combined(part, inner):
            if part[0] == "num":
                return self._number(("number",), ("number", 0, None), 1)
            if part[0] == "fn":
                return self._number(("fn",), ("fn", "x", ("fail", "gap")), 2)
            if part[0] == "name":
                return table[part[1]] if part[1] in table else self._of_record([], [])
            if part[0] == "own":
                return self._of_own(part[1], inner)
            if part[0] == "variant":
                return self._of_variant(part, inner)
            return self._of_record([label for label, _ in part[1]], inner)

        return folded(kind, combined)

    def _of_variant(self, kind, inner):
        """The least value of a variant; a constructor is the tag of no value."""
        if kind[2] is not None:
            return self._tagged(other_tag(self.book, [tag for tag, _ in kind[1]]), self._of_record([], []))
        found = []
        for entry, number in zip(kind[1], inner):
            if number is not None and self.book.kind_of(entry[0]) is None:
                found.append(self._tagged(entry[0], number))
        return self._smallest(found)

    def _of_own(self, name, numbers):
        """The least value of an own kind with kinds of which the least values are told.

        It has no part of the same kind, so that this kind may be taken to be empty within its contents.
        """
        key = (name, *numbers)
        if key not in self.known:
            self.known[key] = None
            table = dict(zip(self.book.parameters(name), numbers))
            found = []
            for tag in self.book.constructors(name):
                number = self._least_within(self.book.kind_of(tag)[2], table)
                if number is not None:
                    found.append(self._tagged(tag, number))
            self.known[key] = self._smallest(found)
        return self.known[key]

    def _smallest(self, numbers):
        """The number of the first value with the fewest parts, or None if there are none."""
        if not numbers:
            return None
        return min([(self.sizes[number], index, number) for index, number in enumerate(numbers)])[2]
