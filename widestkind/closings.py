"""Where the rows of a match close the tags that what is matched may have."""
from widestkind.shapes import parts_in


def steps_in(pattern):
    """The steps from a pattern to those directly within it, in their order."""
    if pattern[0] == "tag":
        return [pattern[1]]
    if pattern[0] == "record":
        return ["." + entry[0] for entry in pattern[1]]
    return []


def tags_in(pattern):
    """The list of the tuples of a way, a tag that stands there, and the number of its part within a pattern."""
    found = []
    number = 0
    waiting = [(pattern, ())]
    while waiting:
        part, way = waiting.pop()
        if part[0] == "tag":
            found.append((way, part[1], number))
        inner = [(one, (*way, step)) for one, step in zip(parts_in(part), steps_in(part))]
        waiting.extend(inner[::-1])
        number += 1
    return found


def is_open(pattern, way):
    """Whether a pattern, read along a way, comes to what fits everything, or to a record without the next label."""
    for step in way:
        if pattern[0] in ("any", "bind"):
            return True
        steps = steps_in(pattern)
        if step not in steps:
            return pattern[0] == "record" and step[0] == "."
        pattern = parts_in(pattern)[steps.index(step)]
    return pattern[0] in ("any", "bind")


def closings(book, rows):
    """The list of the closings of rows, in ascending order of their ways.

    A closing is a tuple of the way, the ascending tuple of the tags, and the index of the row and the number of the
    part within its pattern at which the first tag stands there.
    """
    first = {}
    tags = {}
    for index, row in enumerate(rows):
        for way, tag, number in tags_in(row[0]):
            first.setdefault(way, (index, number))
            if book.kind_of(tag) is None:
                tags.setdefault(way, {})[tag] = True
    found = []
    for way in sorted(tags):
        if not any([is_open(row[0], way) for row in rows]):
            index, number = first[way]
            found.append((way, tuple(sorted(tags[way])), index, number))
    return found
