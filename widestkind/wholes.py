"""Texts with the books in which they are read."""
from widestkind.books import first_unknown
from widestkind.copies import Source
from widestkind.errors import BadMacro, BadPlace, Unknown
from widestkind.groups import grouped
from widestkind.knots import Knots
from widestkind.shapes import is_row, parts_of
from widestkind.trees import text_of
from widestkind.words import is_integer


class Whole:
    """A text with the book in which it is read. It never changes.

    What comes of it alone is worked out once, and kept with it.
    """

    def __init__(self, book, text):
        self.book = book
        self.text = text
        self._read = book.read_text(text)
        self._sources = sources_of(book, self._read)
        check_names(book, self._sources)
        self._laid = None
        self._first = None
        self._kept = {}

    def kept(self, name):
        """What was worked out of this whole, by its name, or None."""
        return self._kept.get(name)

    def keep(self, name, found):
        """Keeps what was worked out of this whole alone; returns it."""
        self._kept[name] = found
        return found

    def tree(self):
        """The expansion of the text's tree."""
        return self._sources[""].steps[0]

    def tree_read(self):
        """The text's tree, as it is written."""
        return self._read

    def source_of_text(self):
        """The Source of the text."""
        return self._sources[""]

    def steps_of(self, name):
        """The parts of the expansion of the text, for `""`, or of a definition that is used."""
        return list(self._sources[name].steps)

    def groups_used(self):
        """The ascending list of the groups of the definitions that are used, directly or through others."""
        uses = {}
        for name, source in self._sources.items():
            if name != "":
                uses[name] = [word for word in source.strays if self.book.defines(word)]
        return grouped(uses)

    def laid(self):
        """The Knots."""
        if self._laid is None:
            self._laid = Knots(self.book, self._sources, self.groups_used(), [""], {})
        return self._laid

    def _first_knots(self):
        """The dict from all places to the first knot of each."""
        if self._first is None:
            self._first = self.laid().first_knots()
        return self._first

    def knots(self):
        """The list of the tuples of the place, the use and the part of all knots."""
        return list(self.laid().rows)

    def places(self):
        """The ascending list of the places of all knots, each once."""
        return sorted(self._first_knots())

    def has_place(self, place):
        """Whether a place is one of a knot."""
        return place in self._first_knots()

    def has_tree_at(self, place):
        """Whether a tree stands at a place, and no row or pattern."""
        knot = self._first_knots()[place]
        return not is_row(self.part_of(knot)) and not self.is_in_pattern(knot)

    def where(self, place):
        """The text of the part that is written at a place."""
        if not is_place_of(self, place):
            raise BadPlace(place)
        owner, number = place
        return text_of(parts_of(self.tree_at(owner))[number])

    def tree_at(self, owner):
        """The tree of the text, of a definition or of a template, as it is written."""
        if owner == "":
            return self._read
        if owner[0] == "@":
            return self.book.template_of(owner[1:])[1]
        return self.book.tree_of(owner)

    def many(self):
        """The number of the knots."""
        return self.laid().many()

    def part_of(self, knot):
        """The part of a knot."""
        return self.laid().part_of(knot)

    def use_of(self, knot):
        """The knot of the use for which the copy with a knot was made, or None."""
        return self.laid().use_of(knot)

    def is_in_pattern(self, knot):
        """Whether the part of a knot is a pattern."""
        return self.laid().is_in_pattern(knot)

    def knots_within(self, knot):
        """The list of the knots of the parts directly within the part of a knot; of the copy of a `rec` just its e1."""
        return self.laid().knots_within(knot)

    def target_of(self, knot):
        """The point that has the same kind as the name of a knot."""
        return self.laid().target_of(knot)


def sources_of(book, tree):
    """The dict from `""` and the names of all definitions that a text uses, in order, to their Sources."""
    made, origins = book.expanded_tree(tree, "")
    known = {"": Source(made, origins)}
    wrong = {}
    waiting = list(known[""].strays)
    while waiting:
        name = waiting.pop()
        if name in known or name in wrong or not book.defines(name):
            continue
        try:
            known[name] = book.source_of(name)
        except BadMacro as refused:
            wrong[name] = refused.name
            continue
        waiting.extend(known[name].strays)
    if wrong:
        raise BadMacro(wrong[min(list(wrong))])
    return {name: known[name] for name in sorted(known)}


def first_wrong_name(source, book):
    """The first name in a source that stands for nothing, or own kind that is not told; or None."""
    if not source.tells and not [word for word in source.strays if not book.defines(word)]:
        return None
    for part, mark in zip(source.steps, source.marks):
        wrong = None
        if part[0] == "name" and mark is None and not book.defines(part[1]):
            wrong = part[1]
        elif part[0] == "told":
            wrong = first_unknown(book, part[2])
        if wrong is not None:
            return wrong
    return None


def check_names(book, sources):
    """Raises Unknown with the first name that stands for nothing, or own kind that is not told."""
    for source in sources.values():
        wrong = first_wrong_name(source, book)
        if wrong is not None:
            raise Unknown(wrong)


def is_place_of(whole, value):
    """Whether any value is a place of a whole."""
    if not isinstance(value, tuple) or len(value) != 2 or not isinstance(value[0], str) or not is_integer(value[1]):
        return False
    return whole.has_place(value)
