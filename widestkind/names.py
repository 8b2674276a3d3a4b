"""What names in trees are bound by, and trees that differ only in the choice of bound names."""
from widestkind.errors import BadTree
from widestkind.shapes import LEAVES, folded, is_row, parts_in, parts_of, rebuilt
from widestkind.trees import is_tree, text_of

BINDING = ("fn", "let", "rec", "bind")


def check_tree(tree):
    """Raises BadTree unless any value is a tree."""
    if not is_tree(tree):
        raise BadTree(tree)


def bound_words(part):
    """The words that a part binds itself, in the order in which they are written."""
    if part[0] == "rec":
        return [part[1], part[2]]
    if part[0] in BINDING:
        return [part[1]]
    return []


def scoped_parts(part, number, scope):
    """The list of the parts directly in a part, each with a dict from the words that are bound there to marks.

    A mark is a tuple of the number of the part that binds the word, and of the word's index among those it binds.
    """
    if is_row(part):
        within = dict(scope)
        for offset, inner in enumerate(parts_of(part[0])):
            for word in bound_words(inner):
                within[word] = (number + 1 + offset, 0)
        return [(part[0], scope), (part[1], within)]
    if part[0] == "fn":
        return [(part[2], {**scope, part[1]: (number, 0)})]
    if part[0] == "let":
        return [(part[2], scope), (part[3], {**scope, part[1]: (number, 0)})]
    if part[0] == "rec":
        within = {**scope, part[1]: (number, 0)}
        return [(part[3], {**within, part[2]: (number, 1)}), (part[4], within)]
    return [(inner, scope) for inner in parts_in(part)]


def binder_marks(tree):
    """A list with an item for each part of a tree: the mark of what binds a name, or None."""
    found = []
    waiting = [(tree, {})]
    while waiting:
        part, scope = waiting.pop()
        head = part[0]
        if head == "name":
            found.append(scope.get(part[1]))
            continue
        if head not in LEAVES:
            inner = scoped_parts(part, len(found), scope)
            waiting.extend(inner[::-1])
        found.append(None)
    return found


def binder_numbers(tree):
    """What `binders` tells of a tree."""
    return [None if mark is None else mark[0] for mark in binder_marks(tree)]


def with_words(tree, words):
    """The tree in which what binds words, by its number, binds those of a list, and the names are these words."""
    return with_marked_words(tree, binder_marks(tree), words)


def with_marked_words(tree, marks, words):
    """The tree with other words for what binds, where the marks of its parts are told."""
    def renamed(part, number, inner):
        if part[0] == "name":
            mark = marks[number]
            return part if mark is None else ("name", words[mark[0]][mark[1]])
        made = rebuilt(part, inner) if inner else part
        if number not in words:
            return made
        return (made[0], *words[number], *made[1 + len(words[number]):])

    return folded(tree, renamed)


def free_words(tree, marks):
    """The dict of True for the words that are free names of a tree, in the order of the text."""
    found = {}
    for part, mark in zip(parts_of(tree), marks):
        if mark is None and part[0] == "name":
            found[part[1]] = True
    return found


def words_for_binders(tree, marks):
    """The dict from the numbers of the parts of a tree that bind words to the lists of their new words."""
    taken = free_words(tree, marks)
    found = {}
    count = 0
    for number, part in enumerate(parts_of(tree)):
        if part[0] not in BINDING:
            continue
        words = []
        for _ in bound_words(part):
            count += 1
            while "x" + str(count) in taken:
                count += 1
            words.append("x" + str(count))
        found[number] = words
    return found


def new_words(tree):
    """The dict from the numbers of the parts of a tree that bind words to the lists of their new words."""
    return words_for_binders(tree, binder_marks(tree))


def with_plain_names(tree):
    """What `plain_names` returns for a tree."""
    marks = binder_marks(tree)
    return with_marked_words(tree, marks, words_for_binders(tree, marks))


def plain_text(tree):
    """The text of the alike tree with plain names: the same one just for trees that are alike."""
    return text_of(with_plain_names(tree))


def binders(tree):
    """A list with an item for each part of a tree: the number of the part that binds a name, or None."""
    check_tree(tree)
    return binder_numbers(tree)


def free(tree):
    """The list of the free names of a tree, each once, in the order of the text."""
    check_tree(tree)
    return list(free_words(tree, binder_marks(tree)))


def alike(one, other):
    """Whether two trees are equal but for the choice of the names that are bound in them."""
    check_tree(one)
    check_tree(other)
    return plain_text(one) == plain_text(other)


def plain_names(tree):
    """The alike tree in which the names that are bound are `x1`, `x2` and so on."""
    check_tree(tree)
    return with_plain_names(tree)
