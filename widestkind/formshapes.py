"""How form trees are built, their parts, and the trees that are left of them without kinds."""
from widestkind.shapes import parts_of, sizes_of

# What stands behind the first word of a form tree, for its first word and its length.
FORM_TREES = {
    ("number", 4): ("count", "unit", "measure"),
    ("name", 3): ("word", "table"),
    ("fail", 3): ("word", "kind"),
    ("fn", 4): ("word", "kind", "tree"),
    ("call", 3): ("tree", "tree"),
    ("let", 5): ("word", "names", "tree", "tree"),
    ("rec", 7): ("word", "word", "names", "kind", "tree", "tree"),
    ("record", 2): ("entries",),
    ("with", 4): ("tree", "word", "tree"),
    ("field", 3): ("tree", "word"),
    ("tag", 4): ("tag", "tree", "kind"),
    ("match", 3): ("tree", "rows"),
    ("op", 4): ("sign", "tree", "tree"),
    ("told", 3): ("tree", "kind"),
}

# Where the form trees directly within a form tree stand in it, for those that have them side by side.
SPANS = {
    "number": (4, 4),
    "name": (3, 3),
    "fail": (3, 3),
    "fn": (3, 4),
    "call": (1, 3),
    "let": (3, 5),
    "rec": (5, 7),
    "field": (1, 2),
    "tag": (2, 3),
    "op": (2, 4),
    "told": (1, 2),
}

# The form trees without form trees within them.
LEAVES = {"number": True, "name": True, "fail": True}

# What is left out of a form tree.
LEFT_OUT = ("measure", "table", "names")


def form_shape(value):
    """The sorts of what stands behind the first word of a tuple that may be a form tree, or None."""
    if value == () or not isinstance(value[0], str):
        return None
    return FORM_TREES.get((value[0], len(value)))


def pattern_parts_in(pattern):
    """The patterns directly within a pattern."""
    if pattern[0] == "tag":
        return [pattern[2]]
    if pattern[0] == "record":
        return [inner for _, inner in pattern[1]]
    return []


def form_parts_in(part):
    """The tuple of the form trees and rows directly within a form tree, or the tree of a row, without patterns."""
    head = part[0]
    if head in SPANS:
        first, behind = SPANS[head]
        return part[first:behind]
    if head == "record":
        return tuple([inner for _, inner in part[1]])
    if head == "match":
        return (part[1], *part[2])
    if head == "with":
        return (part[1], part[3])
    return (part[1],)


def form_parts(tree):
    """A form tree and all form trees and rows within it, each ahead of those in it, these in their order."""
    found = []
    waiting = [tree]
    while waiting:
        part = waiting.pop()
        found.append(part)
        if part[0] not in LEAVES:
            waiting.extend(form_parts_in(part)[::-1])
    return found


def put_within(part, inner):
    """The form tree or row with others in the place of those directly within it."""
    head = part[0]
    if head in SPANS:
        first, behind = SPANS[head]
        return part if first == behind else (*part[:first], *inner, *part[behind:])
    if head == "record":
        return ("record", tuple([(entry[0], new) for entry, new in zip(part[1], inner)]))
    if head == "match":
        return ("match", inner[0], tuple(inner[1:]))
    if head == "with":
        return ("with", inner[0], part[2], inner[1])
    return (part[0], inner[0])


def form_folded(tree, change):
    """The form tree of which each part is what `change` makes of it, those within it changed ahead of it."""
    done = []
    for part in form_parts(tree)[::-1]:
        inner = [done.pop() for _ in form_parts_in(part)]
        done.append(change(part, inner))
    return done[0]


def bare(part, inner):
    """What is left of a form tree, or of a row, if kinds, names and tables are left out."""
    if isinstance(part[0], tuple):
        return (part[0], inner[0])
    shape = form_shape(part)
    made = put_within(part, inner)
    kept = [made[0]]
    for item, sort in zip(made[1:], shape):
        if sort not in LEFT_OUT and (sort != "kind" or part[0] == "told"):
            kept.append(item)
    return tuple(kept)


def bare_tree(tree):
    """The tree that is left of a form tree."""
    return form_folded(tree, bare)


def form_sizes(tree):
    """The list of the numbers of the parts within each part of a form tree, itself included; patterns count too."""
    sizes = []
    done = []
    for part in form_parts(tree)[::-1]:
        size = 1
        if part[0] not in LEAVES:
            for _ in form_parts_in(part):
                size += done.pop()
        if isinstance(part[0], tuple):
            inner = sizes_of(parts_of(part[0]))
            size += inner[0]
            sizes.extend(inner[::-1])
        done.append(size)
        sizes.append(size)
    return sizes[::-1]
