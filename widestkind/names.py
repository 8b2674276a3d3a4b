"""What names in trees are bound by, and trees that differ only in the choice of bound names."""
from widestkind.errors import BadTree
from widestkind.shapes import folded, is_row, parts_in, parts_of, rebuilt
from widestkind.trees import is_tree, show

BINDING = ("fn", "let", "rec", "bind")


def check_tree(tree):
    """Raises BadTree unless any value is a tree."""
    if not is_tree(tree):
        raise BadTree(tree)


def bound_words(part):
    """The words that a part binds itself, in the order in which they are written."""
    if part[0] == "rec":
        return [part[1], part[2]]
    if part[0] in BINDING:
        return [part[1]]
    return []


def scoped_parts(part, number, scope):
    """The list of the parts directly in a part, each with a dict from the words that are bound there to binders."""
    if is_row(part):
        within = dict(scope)
        for offset, inner in enumerate(parts_of(part[0])):
            for word in bound_words(inner):
                within[word] = number + 1 + offset
        return [(part[0], scope), (part[1], within)]
    if part[0] == "fn":
        return [(part[2], {**scope, part[1]: number})]
    if part[0] == "let":
        return [(part[2], scope), (part[3], {**scope, part[1]: number})]
    if part[0] == "rec":
        within = {**scope, part[1]: number}
        return [(part[3], {**within, part[2]: number}), (part[4], within)]
    return [(inner, scope) for inner in parts_in(part)]


def binder_numbers(tree):
    """What `binders` tells of a tree."""
    found = []
    waiting = [(tree, {})]
    while waiting:
        part, scope = waiting.pop()
        inner = scoped_parts(part, len(found), scope)
        found.append(scope.get(part[1]) if part[0] == "name" else None)
        waiting.extend(inner[::-1])
    return found


def binders(tree):
    """A list with an item for each part of a tree: the number of the part that binds a name, or None."""
    check_tree(tree)
    return binder_numbers(tree)


def free(tree):
    """The list of the free names of a tree, each once, in the order of the text."""
    check_tree(tree)
    found = {}
    for part, binder in zip(parts_of(tree), binder_numbers(tree)):
        if part[0] == "name" and binder is None:
            found[part[1]] = True
    return list(found)


def alike(one, other):
    """Whether two trees are equal but for the choice of the names that are bound in them."""
    check_tree(one)
    check_tree(other)
    return show(plain_names(one)) == show(plain_names(other))


def new_words(tree):
    """The dict from the numbers of the parts of a tree that bind words to dicts from these words to new ones."""
    taken = {word: True for word in free(tree)}
    found = {}
    count = 0
    for number, part in enumerate(parts_of(tree)):
        words = {}
        for word in bound_words(part):
            count += 1
            while "x" + str(count) in taken:
                count += 1
            words[word] = "x" + str(count)
        found[number] = words
    return found


def plain_names(tree):
    """The alike tree in which the names that are bound are `x1`, `x2` and so on."""
    check_tree(tree)
    words = new_words(tree)
    numbers = binder_numbers(tree)

    def renamed(part, number, inner):
        made = rebuilt(part, inner)
        if part[0] == "name" and numbers[number] is not None:
            return ("name", words[numbers[number]][part[1]])
        bound = bound_words(part)
        if not bound:
            return made
        return (made[0], *[words[number][word] for word in bound], *made[1 + len(bound):])

    return folded(tree, renamed)
