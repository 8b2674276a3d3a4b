"""Texts with the books in which they are read."""
from widestkind.books import first_unknown
from widestkind.copies import Copies, Source
from widestkind.errors import BadMacro, BadPlace, Unknown
from widestkind.groups import grouped
from widestkind.reading import read
from widestkind.shapes import is_row, parts_of
from widestkind.trees import text_of
from widestkind.words import is_integer


class Whole:
    """A text with the book in which it is read. It never changes.

    What comes of it alone is worked out once, and kept with it.
    """

    def __init__(self, book, text):
        self.book = book
        self.text = text
        sources = sources_of(book, read(text))
        defined = check_names(book, sources)
        self._steps = {name: tuple(source.steps) for name, source in sources.items()}
        uses = {name: [word for word in sources[name].strays if word in defined] for name in sources if name != ""}
        self._groups = grouped(uses)
        copies = Copies(sources, {name: group for group in self._groups for name in group})
        self._knots = copies.found
        self._targets = copies.targets
        self._within = copies.within()
        self._points = [(knot, "kind", ()) for knot in range(len(copies.found))]
        self._above = [None for _ in copies.found]
        self._patterns = [False for _ in copies.found]
        for knot, within in enumerate(self._within):
            for inner in within:
                self._above[inner] = knot
            if self._patterns[knot]:
                for inner in within:
                    self._patterns[inner] = True
            elif is_row(copies.found[knot][2]):
                self._patterns[within[0]] = True
        self._places = sorted({place: True for place, _, _ in copies.found})
        self._kept = {}

    def kept(self, name):
        """What was worked out of this whole, by its name, or None."""
        return self._kept.get(name)

    def keep(self, name, found):
        """Keeps what was worked out of this whole alone; returns it."""
        self._kept[name] = found
        return found

    def tree(self):
        """The expansion of the text's tree."""
        return self._steps[""][0]

    def steps_of(self, name):
        """The parts of the expansion of the text, for `""`, or of a definition that is used."""
        return list(self._steps[name])

    def groups_used(self):
        """The ascending list of the groups of the definitions that are used, directly or through others."""
        return [list(group) for group in self._groups]

    def knots(self):
        """The list of the tuples of the place, the use and the part of all knots."""
        return list(self._knots)

    def places(self):
        """The ascending list of the places of all knots, each once."""
        return list(self._places)

    def where(self, place):
        """The text of the part that is written at a place."""
        if not is_place_of(self, place):
            raise BadPlace(place)
        owner, number = place
        if owner == "":
            tree = read(self.text)
        elif owner[0] == "@":
            tree = self.book.template_of(owner[1:])[1]
        else:
            tree = self.book.tree_of(owner)
        return text_of(parts_of(tree)[number])

    def many(self):
        """The number of the knots."""
        return len(self._knots)

    def part_of(self, knot):
        """The part of a knot."""
        return self._knots[knot][2]

    def use_of(self, knot):
        """The knot of the use for which the copy with a knot was made, or None."""
        return self._knots[knot][1]

    def is_in_pattern(self, knot):
        """Whether the part of a knot is a pattern."""
        return self._patterns[knot]

    def knots_within(self, knot):
        """The list of the knots of the parts directly within the part of a knot; of the copy of a `rec` just its e1."""
        return list(self._within[knot])

    def points_within(self, knot):
        """The list of the points of the kinds of the knots of the parts directly within the part of a knot."""
        return [self._points[inner] for inner in self._within[knot]]

    def knot_above(self, knot):
        """The knot of the part in which the part of a knot stands directly, or None."""
        return self._above[knot]

    def target_of(self, knot):
        """The point that has the same kind as the name of a knot."""
        return self._targets[knot]


def sources_of(book, tree):
    """The dict from `""` and the names of all definitions that a text uses, in order, to their Sources."""
    made, origins = book.expanded_tree(tree, "")
    known = {"": Source(made, origins)}
    wrong = {}
    waiting = list(known[""].strays)
    there = {name: True for name in book.definitions()}
    while waiting:
        name = waiting.pop()
        if name in known or name in wrong or name not in there:
            continue
        try:
            made, origins = book.expansion_of(name)
        except BadMacro as refused:
            wrong[name] = refused.name
            continue
        known[name] = Source(made, origins)
        waiting.extend(known[name].strays)
    if wrong:
        raise BadMacro(wrong[min(list(wrong))])
    return {name: known[name] for name in sorted(known)}


def first_wrong_name(source, book, defined):
    """The first name in a source that stands for nothing, or own kind that is not told; or None."""
    if not [word for word in source.strays if word not in defined] and not source.tells:
        return None
    for part, mark in zip(source.steps, source.marks):
        wrong = None
        if part[0] == "name" and mark is None and part[1] not in defined:
            wrong = part[1]
        elif part[0] == "told":
            wrong = first_unknown(book, part[2])
        if wrong is not None:
            return wrong
    return None


def check_names(book, sources):
    """The dict of True for all definitions; raises Unknown with the first name that stands for nothing."""
    defined = {name: True for name in book.definitions()}
    for source in sources.values():
        wrong = first_wrong_name(source, book, defined)
        if wrong is not None:
            raise Unknown(wrong)
    return defined


def is_place_of(whole, value):
    """Whether any value is a place of a whole."""
    if not isinstance(value, tuple) or len(value) != 2 or not isinstance(value[0], str) or not is_integer(value[1]):
        return False
    return value in whole.places()
