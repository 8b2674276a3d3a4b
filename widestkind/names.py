"""What names in trees are bound by, and trees that differ only in the choice of bound names."""
from widestkind.errors import BadTree
from widestkind.shapes import folded, is_row, parts_in, parts_of, rebuilt
from widestkind.trees import is_tree, show

BINDING = ("fn", "let", "rec", "bind")


def check_tree(tree):
    """Raises BadTree unless any value is a tree."""
    if not is_tree(tree):
        raise BadTree(tree)


def bound_words(part):
    """The words that a part binds itself, in the order in which they are written."""
    if part[0] == "rec":
        return [part[1], part[2]]
    if part[0] in BINDING:
        return [part[1]]
    return []


def scoped_parts(part, number, scope):
    """The list of the parts directly in a part, each with a dict from the words that are bound there to marks.

    A mark is a tuple of the number of the part that binds the word, and of the word's index among those it binds.
    """
    if is_row(part):
        within = dict(scope)
        for offset, inner in enumerate(parts_of(part[0])):
            for word in bound_words(inner):
                within[word] = (number + 1 + offset, 0)
        return [(part[0], scope), (part[1], within)]
    if part[0] == "fn":
        return [(part[2], {**scope, part[1]: (number, 0)})]
    if part[0] == "let":
        return [(part[2], scope), (part[3], {**scope, part[1]: (number, 0)})]
    if part[0] == "rec":
        within = {**scope, part[1]: (number, 0)}
        return [(part[3], {**within, part[2]: (number, 1)}), (part[4], within)]
    return [(inner, scope) for inner in parts_in(part)]


def binder_marks(tree):
    """A list with an item for each part of a tree: the mark of what binds a name, or None."""
    found = []
    waiting = [(tree, {})]
    while waiting:
        part, scope = waiting.pop()
        inner = scoped_parts(part, len(found), scope)
        found.append(scope.get(part[1]) if part[0] == "name" else None)
        waiting.extend(inner[::-1])
    return found


def binder_numbers(tree):
    """What `binders` tells of a tree."""
    return [None if mark is None else mark[0] for mark in binder_marks(tree)]


def with_words(tree, words):
    """The tree in which what binds words, by its number, binds those of a list, and the names are these words."""
    marks = binder_marks(tree)

    def renamed(part, number, inner):
        made = rebuilt(part, inner)
        if marks[number] is not None:
            binder, index = marks[number]
            return ("name", words[binder][index])
        if not bound_words(part):
            return made
        return (made[0], *words[number], *made[1 + len(words[number]):])

    return folded(tree, renamed)


def binders(tree):
    """A list with an item for each part of a tree: the number of the part that binds a name, or None."""
    check_tree(tree)
    return binder_numbers(tree)


def free(tree):
    """The list of the free names of a tree, each once, in the order of the text."""
    check_tree(tree)
    found = {}
    for part, binder in zip(parts_of(tree), binder_numbers(tree)):
        if part[0] == "name" and binder is None:
            found[part[1]] = True
    return list(found)


def alike(one, other):
    """Whether two trees are equal but for the choice of the names that are bound in them."""
    check_tree(one)
    check_tree(other)
    return show(plain_names(one)) == show(plain_names(other))


def new_words(tree):
    """The dict from the numbers of the parts of a tree that bind words to the lists of their new words."""
    taken = {word: True for word in free(tree)}
    found = {}
    count = 0
    for number, part in enumerate(parts_of(tree)):
        words = []
        for _ in bound_words(part):
            count += 1
            while "x" + str(count) in taken:
                count += 1
            words.append("x" + str(count))
        if words:
            found[number] = words
    return found


def plain_names(tree):
    """The alike tree in which the names that are bound are `x1`, `x2` and so on."""
    check_tree(tree)
    return with_words(tree, new_words(tree))
