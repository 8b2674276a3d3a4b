"""How trees, rows and patterns are built, and ways through them with lists in the place of deep recursion."""

TREES = {
    "number": ("count", "unit"),
    "name": ("word",),
    "fail": ("word",),
    "fn": ("word", "tree"),
    "call": ("tree", "tree"),
    "let": ("word", "tree", "tree"),
    "rec": ("word", "word", "tree", "tree"),
    "record": ("entries",),
    "with": ("tree", "word", "tree"),
    "field": ("tree", "word"),
    "tag": ("tag", "tree"),
    "match": ("tree", "rows"),
    "op": ("sign", "tree", "tree"),
    "told": ("tree", "kind"),
    "macro": ("plain", "trees"),
}

PATTERNS = {
    "any": (),
    "bind": ("word",),
    "tag": ("tag", "tree"),
    "record": ("entries",),
}


# Where the parts directly within a tree or a pattern stand in it, for those that have them side by side.
SPANS = {
    "number": (3, 3),
    "name": (2, 2),
    "fail": (2, 2),
    "any": (1, 1),
    "bind": (2, 2),
    "fn": (2, 3),
    "call": (1, 3),
    "let": (2, 4),
    "rec": (3, 5),
    "field": (1, 2),
    "tag": (2, 3),
    "op": (2, 4),
    "told": (1, 2),
}

# The trees and patterns without parts within them.
LEAVES = {"number": True, "name": True, "fail": True, "any": True, "bind": True}


def is_row(part):
    """Whether a part is a row."""
    return isinstance(part[0], tuple)


def parts_in(part):
    """The tuple of the parts directly within a part, in the order in which they are written."""
    head = part[0]
    if head in SPANS:
        first, behind = SPANS[head]
        return part[first:behind]
    if head == "record":
        return tuple([inner for _, inner in part[1]])
    if head == "match":
        return (part[1], *part[2])
    if head == "with":
        return (part[1], part[3])
    return part[2] if head == "macro" else part


def parts_of(part):
    """A part and all parts within it, a part ahead of those in it, these in their order."""
    found = []
    waiting = [part]
    while waiting:
        first = waiting.pop()
        found.append(first)
        if first[0] not in LEAVES:
            waiting.extend(parts_in(first)[::-1])
    return found


def sizes_of(parts):
    """The list of the numbers of the parts within each part of a tree, itself included, for the list of its parts."""
    sizes = []
    done = []
    for part in parts[::-1]:
        size = 1
        if part[0] not in LEAVES:
            for _ in parts_in(part):
                size += done.pop()
        done.append(size)
        sizes.append(size)
    return sizes[::-1]


def numbers_within(number, many, sizes):
    """The numbers of so many parts directly within the part with a number."""
    found = []
    inner = number + 1
    for _ in range(many):
        found.append(inner)
        inner += sizes[inner]
    return found


def inner_numbers(steps):
    """The list of the lists of the numbers of the parts directly within each part, for the list of a tree's parts."""
    found = []
    done = []
    number = len(steps)
    for part in steps[::-1]:
        number -= 1
        found.append([] if part[0] in LEAVES else [done.pop() for _ in parts_in(part)])
        done.append(number)
    return found[::-1]


def rebuilt(part, inner):
    """The part with other parts in the place of those directly within it."""
    head = part[0]
    if head in SPANS:
        first, behind = SPANS[head]
        return part if first == behind else (*part[:first], *inner, *part[behind:])
    if head == "record":
        return ("record", tuple([(entry[0], new) for entry, new in zip(part[1], inner)]))
    if head == "match":
        return ("match", inner[0], tuple(inner[1:]))
    if head == "with":
        return ("with", inner[0], part[2], inner[1])
    if head == "macro":
        return ("macro", part[1], tuple(inner))
    return (inner[0], inner[1])


def folded(tree, combine):
    """What `combine` makes of a part, its number, and the list of what it has made of the parts directly in it."""
    done = []
    steps = parts_of(tree)
    number = len(steps)
    for part in steps[::-1]:
        number -= 1
        if part[0] in LEAVES:
            done.append(combine(part, number, []))
        else:
            inner = [done.pop() for _ in parts_in(part)]
            done.append(combine(part, number, inner))
    return done[0]
