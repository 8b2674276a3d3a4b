"""The values that can stand at a match, and the tags that they may have at ways.

A way is a tuple of labels and tags that leads from a value to a part of it. Of a value is known which tags it has at
some ways: a dict from these ways to the tags.
"""
from widestkind.closings import tags_in
from widestkind.kinds import fill_all
from widestkind.leastvalues import LeastValues, other_tag
from widestkind.words import is_tag


def tests_of(pattern):
    """The list of the tuples of a way and the tag that a pattern has there, a way ahead of longer ones."""
    found = []
    for way, tag, _ in tags_in(pattern):
        found.append((tuple([step[1:] if step[0] == "." else step for step in way]), tag))
    return found


class Standing:
    """The values of a kind. `around` has the kinds at ways that were asked for, and None where none is known.

    `options` has the tags that values may have at ways that were asked for.
    """

    def __init__(self, book, kind):
        self.book = book
        self.least = LeastValues(book)
        self.around = {(): kind}
        self.options = {}

    def has_values(self):
        """Whether there are values at all."""
        return self.least.of(self.around[()]) is not None

    def kind_at(self, way):
        """The kind at a way, or None if nothing is told of what stands there."""
        if way not in self.around:
            self.around[way] = self._inner(self.kind_at(way[:-1]), way[-1])
        return self.around[way]

    def _inner(self, kind, step):
        """The kind to which a step leads from a kind, or None."""
        if kind is None:
            return None
        if kind[0] == ("variant" if is_tag(step) else "record"):
            return dict(kind[1]).get(step)
        ours = self.book.kind_of(step) if is_tag(step) else None
        if ours is None or kind[0] != "own" or ours[0] != kind[1]:
            return None
        return fill_all(ours[2], dict(zip(ours[1], kind[2])))

    def tags_named(self, way):
        """The ascending list of the tags that values may have at a way and that the kind there names."""
        if way not in self.options:
            self.options[way] = self._tags_within(way)
        return list(self.options[way])

    def _tags_within(self, way):
        """The ascending list of the tags that the kind at a way names, and the contents of which have values."""
        kind = self.kind_at(way)
        if kind[0] == "own":
            tags = self.book.constructors(kind[1])
        else:
            tags = [tag for tag, _ in kind[1] if self.book.kind_of(tag) is None]
        return sorted([tag for tag in tags if self.least.of(self.kind_at((*way, tag))) is not None])

    def has_others(self, way):
        """Whether values may have tags at a way that the kind there does not name."""
        kind = self.kind_at(way)
        return kind[0] == "variant" and kind[2] is not None

    def tags_at(self, way):
        """The list of the tags that values may have at a way, with one that stands for all that are not named."""
        found = self.tags_named(way)
        if self.has_others(way):
            found.append(other_tag(self.book, [tag for tag, _ in self.kind_at(way)[1]]))
        return found

    def may_have(self, tests):
        """Whether some value has all tags of a list of tuples of ways and tags, a way ahead of longer ones."""
        if not self.has_values():
            return False
        return all([tag in self.tags_at(way) for way, tag in tests])

    def value(self, known):
        """The value with just the tags that are known, and the least ones elsewhere."""
        ahead = {way[:many]: True for way in known for many in range(len(way) + 1)}
        return self._value(known, ahead, ())

    def _value(self, known, ahead, way):
        """The part of a value at a way; it goes only as deep as ways do of which something is known."""
        kind = self.kind_at(way)
        if way in known:
            tag = known[way]
            inner = self._value(known, ahead, (*way, tag))
            return ("tag", tag, ("record", ()) if inner is None else inner)
        if kind is None or way not in ahead:
            return None if kind is None else self.least.tree_with(self.least.of(kind))
        if kind[0] != "record":
            tag = [tag for tag in self.tags_named(way) if (*way, tag) in ahead][0]
            return ("tag", tag, self._value(known, ahead, (*way, tag)))
        entries = [(label, self._value(known, ahead, (*way, label))) for label, _ in kind[1]]
        return ("record", tuple(entries))


def outcome(tests, known):
    """What is known of a row: the first test of which nothing is known; True if it fits; or False."""
    question = None
    for way, tag in tests:
        if way not in known:
            question = question or (way, tag)
        elif known[way] != tag:
            return False
    return True if question is None else question


def first_open(rows, known):
    """The index of the first row that is not known to fail, with its outcome; or the number of the rows, and False."""
    for index, tests in enumerate(rows):
        told = outcome(tests, known)
        if told is not False:
            return index, told
    return len(rows), False


def escaping(standing, rows, known):
    """What is known of some value at which all rows fail, beside what is known already, or None."""
    waiting = [known]
    while waiting:
        one = waiting.pop()
        _, told = first_open(rows, one)
        if told is False:
            return one
        if told is not True:
            way = told[0]
            waiting.extend([{**one, way: tag} for tag in standing.tags_at(way)[::-1]])
    return None
