"""The knots of wholes and of groups of definitions, and what stands where among them."""
from widestkind.copies import Copies


class Knots:
    """The knots of some sources and of all copies of what is used in them. They never change.

    `known` has the kinds of definitions that are used but not copied, or None for those of which nothing is known.
    """

    def __init__(self, book, sources, groups, first, known):
        self.book = book
        self.known = known
        copies = Copies(sources, {name: group for group in groups for name in group}, first)
        self.rows = copies.found
        self.targets = copies.targets
        self.inner = copies.within()
        self.points = [(knot, "kind", ()) for knot in range(len(copies.found))]
        self.patterns = copies.pattern_knots()
        self.matches = copies.match_knots()

    def many(self):
        """The number of the knots."""
        return len(self.rows)

    def part_of(self, knot):
        """The part of a knot."""
        return self.rows[knot][2]

    def use_of(self, knot):
        """The knot of the use for which the copy with a knot was made, or None."""
        return self.rows[knot][1]

    def is_in_pattern(self, knot):
        """Whether the part of a knot is a pattern."""
        return knot in self.patterns

    def knots_within(self, knot):
        """The list of the knots of the parts directly within the part of a knot; of the copy of a `rec` just its e1."""
        return list(self.inner[knot])

    def points_within(self, knot):
        """The list of the points of the kinds of the knots of the parts directly within the part of a knot."""
        return [self.points[inner] for inner in self.inner[knot]]

    def match_of(self, row):
        """The knot of the match in which a row stands."""
        return self.matches[row]

    def target_of(self, knot):
        """The point that has the same kind as the name of a knot, or None if what it means is not copied."""
        return self.targets[knot]

    def kind_used(self, knot):
        """The kind of the definition that the name of a knot means, if this is not copied; None if it may be any."""
        return self.known[self.rows[knot][2][1]]

    def first_knots(self):
        """The dict from the places of all knots to the first knot of each."""
        found = {}
        for knot, (place, _, _) in enumerate(self.rows):
            found.setdefault(place, knot)
        return found
