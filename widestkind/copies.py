"""The knots of a whole: the parts of its text, and copies of what is used in it."""
from widestkind.names import free_words, marks_in
from widestkind.shapes import inner_numbers, parts_of, sizes_of


class Source:
    """An expanded tree, with the places that its parts come from, their sizes, and what binds the names in it.

    `inner` has the numbers of the parts within each part, `strays` the words that are not bound, and `tells` is whether
    kinds are told. `patterns` has True for the numbers of patterns, `matches` the matches of rows. It never changes.
    """

    def __init__(self, tree, origins):
        self.steps = parts_of(tree)
        self.origins = origins
        self.sizes = sizes_of(self.steps)
        self.inner = inner_numbers(self.steps)
        self.marks = marks_in(self.steps, self.inner)
        self.strays = list(free_words(self.steps, self.marks))
        self.tells = any([part[0] == "told" for part in self.steps])
        self.patterns = {}
        self.matches = {}
        for number, part in enumerate(self.steps):
            if part[0] == "match":
                self._note_rows(number)

    def _note_rows(self, match):
        """Notes the rows of a match, and their patterns."""
        for row in self.inner[match][1:]:
            self.matches[row] = match
            pattern, tree = self.inner[row]
            for number in range(pattern, tree):
                self.patterns[number] = True


class Copy:
    """A row of knots that came in at once.

    `stretches` has for the names of sources the tuple of the number of the first part, the number behind the last
    one, and the knot of the first one. `around` is the copy in which the binder stands of what is copied, or None.
    """

    def __init__(self, around):
        self.around = around
        self.stretches = {}

    def knot(self, name, number):
        """The knot of a part of a source in this very copy, or None."""
        if name not in self.stretches:
            return None
        begin, end, first = self.stretches[name]
        return first + number - begin if begin <= number < end else None


def outermost(copy):
    """The copy around all others around a copy."""
    while copy.around is not None:
        copy = copy.around
    return copy


def holder(copy, name, number):
    """The innermost copy around a copy, perhaps itself, that has a part of a source."""
    while copy.knot(name, number) is None:
        copy = copy.around
    return copy


class Copies:
    """All knots. For each one: its tuple, and the name of its source, the number of its part there, and its copy.

    `targets` has for the knot of each name the point of the same kind, and None for other knots. `rows` has the
    stretches of sources, with their first knots, in their order. The sources named in `first` are put first, in one
    copy; definitions that `groups` does not have are not copied, and their names have no target.
    """

    def __init__(self, sources, groups, first):
        self.sources = sources
        self.grouping = groups
        self.found = []
        self.rows = []
        self.seats = []
        self.targets = []
        start = Copy(None)
        for name in first:
            self._put(start, name, 0, len(sources[name].steps), None)
        while len(self.targets) < len(self.found):
            knot = len(self.targets)
            self.targets.append(self._target(knot) if self.found[knot][2][0] == "name" else None)

    def _put(self, copy, name, begin, end, use):
        """Puts the parts of a source from one number up to another one behind all knots."""
        source = self.sources[name]
        copy.stretches[name] = (begin, end, len(self.found))
        self.rows.append((name, begin, end, len(self.found)))
        for place, part in zip(source.origins[begin:end], source.steps[begin:end]):
            self.found.append((place, use, part))
        self.seats.extend([(name, number, copy) for number in range(begin, end)])

    def _target(self, knot):
        """The point of the same kind as a name; what the name uses is copied."""
        name, number, copy = self.seats[knot]
        source = self.sources[name]
        part = source.steps[number]
        if source.marks[number] is None:
            return self._definition_target(knot, part[1], copy)
        binder, index = source.marks[number]
        around = holder(copy, name, binder)
        bound = around.knot(name, binder)
        head = source.steps[binder][0]
        if head == "fn" or index == 1:
            return (bound, "bound", ())
        if head == "bind":
            return (bound, "kind", ())
        within = binder + 1 + source.sizes[binder + 1]
        if head == "let":
            self._put(Copy(around), name, binder + 1, within, knot)
            return (len(self.found) - source.sizes[binder + 1], "kind", ())
        if number < within:
            return (bound, "self", ())
        self._put(Copy(around), name, binder, within, knot)
        return (len(self.found) - source.sizes[binder + 1] - 1, "self", ())

    def _definition_target(self, knot, word, copy):
        """The point of the tree of a definition, in the copy of its own group or in a new copy; or None."""
        group = outermost(copy)
        if group.knot(word, 0) is None:
            if word not in self.grouping:
                return None
            group = Copy(None)
            for name in self.grouping[word]:
                self._put(group, name, 0, len(self.sources[name].steps), knot)
        return (group.knot(word, 0), "kind", ())

    def within(self):
        """The list of the tuples of the knots directly within each knot; the copy of a `rec` has but its e1."""
        found = []
        for name, begin, end, first in self.rows:
            offset = first - begin
            for numbers in self.sources[name].inner[begin:end]:
                found.append(tuple([number + offset for number in numbers if number < end]) if numbers else ())
        return found

    def pattern_knots(self):
        """The dict of True for the knots of patterns."""
        found = {}
        for name, begin, end, first in self.rows:
            for number in self.sources[name].patterns:
                if begin <= number < end:
                    found[number + first - begin] = True
        return found

    def match_knots(self):
        """The dict from the knots of rows to those of their matches."""
        found = {}
        for name, begin, end, first in self.rows:
            for row, match in self.sources[name].matches.items():
                if begin <= row < end:
                    found[row + first - begin] = match + first - begin
        return found
