"""Trees of looks: which row of a match a value comes to, told by looks at its tags."""
from widestkind.cases import matched_kind, rows_of
from widestkind.standing import Standing
from widestkind.words import is_integer, is_tag, is_word

MISSED = ("missed",)


def is_way(value):
    """Whether any value is a tuple of labels and tags."""
    return isinstance(value, tuple) and all([is_word(step) or is_tag(step) for step in value])


def are_branches(value):
    """Whether any value is a tuple of one or more pairs with tags in ascending order."""
    if not isinstance(value, tuple) or value == ():
        return False
    last = ""
    for branch in value:
        if not isinstance(branch, tuple) or len(branch) != 2 or not is_tag(branch[0]) or branch[0] <= last:
            return False
        last = branch[0]
    return True


class Judge:
    """Goes through a tree of looks with what is known of the values that come to each part of it.

    That is a dict from the ways that were looked at to tuples of the tags that are left there, in ascending order,
    and of whether tags are left that the kind there does not name.
    """

    def __init__(self, standing, rows):
        self.standing = standing
        self.rows = rows

    def left_at(self, known, way):
        """The tags that are left at a way at which there are tags."""
        if way in known:
            return known[way]
        return tuple(self.standing.tags_named(way)), self.standing.has_others(way)

    def leads(self, known, way):
        """Whether a way leads to a part with a tag in all values."""
        for many, step in enumerate(way):
            kind = self.standing.kind_at(way[:many])
            if kind is None:
                return False
            if not is_tag(step):
                if kind[0] != "record" or step not in dict(kind[1]):
                    return False
            elif kind[0] not in ("own", "variant") or self.left_at(known, way[:many]) != ((step,), False):
                return False
        kind = self.standing.kind_at(way)
        return kind is not None and kind[0] in ("own", "variant")

    def may_fit(self, known, tests):
        """Whether some value has all tags for which a row asks."""
        return all([tag in self.left_at(known, way)[0] for way, tag in tests])

    def surely_fits(self, known, tests):
        """Whether all values have all tags for which a row asks."""
        return all([self.left_at(known, way) == ((tag,), False) for way, tag in tests])

    def is_end(self, known, value):
        """Whether all values end at a tuple that is no look."""
        many = len(self.rows)
        if value[0] == "row":
            if len(value) != 2 or not is_integer(value[1]) or not 0 <= value[1] < many:
                return False
            if not self.surely_fits(known, self.rows[value[1]]):
                return False
            many = value[1]
        elif value != MISSED:
            return False
        return not any([self.may_fit(known, tests) for tests in self.rows[:many]])

    def is_other_tag(self, way, tag):
        """Whether values may have a tag at a way that the kind there does not name."""
        if not self.standing.has_others(way) or self.standing.book.kind_of(tag) is not None:
            return False
        return tag not in dict(self.standing.kind_at(way)[1])

    def behind_look(self, known, value):
        """The list of the trees behind a look, each with what is known there; None if the look is not right."""
        if len(value) != 4 or not is_way(value[1]) or not are_branches(value[2]):
            return None
        _, way, branches, other = value
        if way in known or not self.leads(known, way):
            return None
        named, others = self.left_at(known, way)
        found = []
        for tag, inner in branches:
            if tag not in named and not self.is_other_tag(way, tag):
                return None
            found.append((inner, {**known, way: ((tag,), False)}))
        taken = dict(branches)
        left = tuple([tag for tag in named if tag not in taken])
        if (left != () or others) != (other is not None):
            return None
        if other is not None:
            found.append((other, {**known, way: (left, others)}))
        return found

    def is_right(self, value):
        """Whether any value is a tree of looks that is right for all values."""
        waiting = [(value, {})]
        while waiting:
            one, known = waiting.pop()
            if not isinstance(one, tuple) or one == () or not isinstance(one[0], str):
                return False
            if one[0] == "look":
                follows = self.behind_look(known, one)
                if follows is None:
                    return False
                waiting.extend(follows)
            elif not self.is_end(known, one):
                return False
        return True


def is_looks(whole, knot, value):
    """Whether any value is a tree of looks that is right at a match knot."""
    standing = Standing(whole.book, matched_kind(whole, knot))
    if not standing.has_values():
        return isinstance(value, tuple) and len(value) == 1 and isinstance(value[0], str) and value == MISSED
    return Judge(standing, rows_of(whole, knot)).is_right(value)


def left_rows(rows):
    """The rows up to the first one that surely fits; a row is a tuple of its index and of what it still asks for."""
    found = []
    for index, tests in rows:
        found.append((index, tests))
        if not tests:
            break
    return tuple(found)


def rows_with(rows, way, tag):
    """The rows that may fit values with a tag at a way, and what they ask for besides; None is any other tag."""
    found = []
    for index, tests in rows:
        asked = [one for at, one in tests if at == way]
        if not asked or asked[0] == tag:
            found.append((index, tuple([test for test in tests if test[0] != way])))
    return left_rows(found)


def ways_of(rows):
    """The list of the ways at which something is asked for and to which all values lead."""
    found = {}
    for _, tests in rows:
        ahead = {}
        for way, _ in tests:
            if not any([way[:many] in ahead for many in range(len(way))]):
                found[way] = True
            ahead[way] = True
    return list(found)


class Maker:
    """Makes trees of looks; `made` has those for rows that are left, with the number of looks within one another."""

    def __init__(self, standing):
        self.standing = standing
        self.made = {}

    def first_rows(self, rows):
        """The rows that may fit some value, without what all values have."""
        found = []
        for index, tests in enumerate(rows):
            if self.standing.may_have(tests):
                asked = [(way, tag) for way, tag in tests if len(self.standing.tags_at(way)) > 1]
                found.append((index, tuple(asked)))
        return left_rows(found)

    def look(self, rows, way, cheapest):
        """The look at a way for rows that are left, with the number of looks within one another."""
        tags = sorted({tag: True for _, tests in rows for at, tag in tests if at == way})
        inner = [self.tree(rows_with(rows, way, tag), cheapest) for tag in tags]
        branches = tuple([(tag, one[1]) for tag, one in zip(tags, inner)])
        other = None
        if [tag for tag in self.standing.tags_at(way) if tag not in tags]:
            inner.append(self.tree(rows_with(rows, way, None), cheapest))
            other = inner[-1][1]
        return 1 + max([many for many, _ in inner]), ("look", way, branches, other)

    def tree(self, rows, cheapest):
        """The tree for rows that are left, with the number of looks within one another.

        Each look answers something that a row asks for, so that this goes no deeper than rows ask.
        """
        if not rows:
            return 0, MISSED
        if not rows[0][1]:
            return 0, ("row", rows[0][0])
        if rows not in self.made:
            ways = ways_of(rows) if cheapest else ways_of(rows[:1])[:1]
            best = None
            for way in ways:
                found = self.look(rows, way, cheapest)
                if best is None or found[0] < best[0]:
                    best = found
            self.made[rows] = best
        return self.made[rows]


def made_looks(whole, knot, cheapest):
    """A tree of looks that is right at a match knot, with the fewest looks within one another if asked for."""
    standing = Standing(whole.book, matched_kind(whole, knot))
    if not standing.has_values():
        return MISSED
    maker = Maker(standing)
    return maker.tree(maker.first_rows(rows_of(whole, knot)), cheapest)[1]


def looks(whole, knot):
    """A tree of looks that is right at a match knot."""
    return made_looks(whole, knot, False)


def cheapest_looks(whole, knot):
    """A tree of looks that is right at a match knot, with as few looks within one another as can be."""
    return made_looks(whole, knot, True)


def most_looks(tree):
    """The greatest number of looks that stand within one another in a tree of looks."""
    most = 0
    waiting = [(tree, 0)]
    while waiting:
        one, many = waiting.pop()
        if one[0] != "look":
            most = max(most, many)
            continue
        waiting.extend([(inner, many + 1) for _, inner in one[2]])
        if one[3] is not None:
            waiting.append((one[3], many + 1))
    return most
