"""How trees, rows and patterns are built, and ways through them with lists in the place of deep recursion."""

TREES = {
    "number": ("count", "unit"),
    "name": ("word",),
    "fail": ("word",),
    "fn": ("word", "tree"),
    "call": ("tree", "tree"),
    "let": ("word", "tree", "tree"),
    "rec": ("word", "word", "tree", "tree"),
    "record": ("entries",),
    "with": ("tree", "word", "tree"),
    "field": ("tree", "word"),
    "tag": ("tag", "tree"),
    "match": ("tree", "rows"),
    "op": ("sign", "tree", "tree"),
    "told": ("tree", "kind"),
    "macro": ("plain", "trees"),
}

PATTERNS = {
    "any": (),
    "bind": ("word",),
    "tag": ("tag", "tree"),
    "record": ("entries",),
}


def shape_of(part):
    """The sorts of what stands behind the first word of a tree or a pattern."""
    if part[0] in PATTERNS:
        return PATTERNS[part[0]]
    return TREES[part[0]]


def is_row(part):
    """Whether a part is a row."""
    return isinstance(part[0], tuple)


def parts_in(part):
    """The parts directly within a part, in the order in which they are written."""
    if is_row(part):
        return [part[0], part[1]]
    found = []
    for item, sort in zip(part[1:], shape_of(part)):
        if sort == "tree":
            found.append(item)
        elif sort == "entries":
            found.extend([inner for label, inner in item])
        elif sort in ("rows", "trees"):
            found.extend(item)
    return found


def parts_of(part):
    """A part and all parts within it, a part ahead of those in it, these in their order."""
    found = []
    waiting = [part]
    while waiting:
        first = waiting.pop()
        found.append(first)
        waiting.extend(parts_in(first)[::-1])
    return found


def sizes_of(parts):
    """The list of the numbers of the parts within each part of a tree, itself included, for the list of its parts."""
    sizes = []
    done = []
    for part in parts[::-1]:
        size = 1
        for _ in parts_in(part):
            size += done.pop()
        done.append(size)
        sizes.append(size)
    return sizes[::-1]


def numbers_within(number, many, sizes):
    """The numbers of so many parts directly within the part with a number."""
    found = []
    inner = number + 1
    for _ in range(many):
        found.append(inner)
        inner += sizes[inner]
    return found


def rebuilt(part, inner):
    """The part with other parts in the place of those directly within it."""
    if is_row(part):
        return (inner[0], inner[1])
    made = [part[0]]
    at = 0
    for item, sort in zip(part[1:], shape_of(part)):
        if sort == "tree":
            made.append(inner[at])
            at += 1
        elif sort == "entries":
            made.append(tuple([(entry[0], new) for entry, new in zip(item, inner[at:])]))
        elif sort in ("rows", "trees"):
            made.append(tuple(inner[at:]))
        else:
            made.append(item)
    return tuple(made)


def folded(tree, combine):
    """What `combine` makes of a part, its number, and the list of what it has made of the parts directly in it."""
    done = []
    number = 0
    waiting = [(tree, -1)]
    while waiting:
        part, known = waiting.pop()
        inner = parts_in(part)
        if known < 0 and inner:
            waiting.append((part, number))
            waiting.extend([(one, -1) for one in inner[::-1]])
        else:
            first = len(done) - len(inner)
            made = combine(part, known if inner else number, done[first:])
            del done[first:]
            done.append(made)
        if known < 0:
            number += 1
    return done[0]
