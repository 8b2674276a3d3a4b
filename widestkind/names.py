"""What names in trees are bound by, and trees that differ only in the choice of bound names."""
from widestkind.errors import BadTree
from widestkind.shapes import LEAVES, inner_numbers, is_row, parts_of, rebuilt
from widestkind.trees import is_tree, text_of

BINDING = ("fn", "let", "rec", "bind")


def check_tree(tree):
    """Raises BadTree unless any value is a tree."""
    if not is_tree(tree):
        raise BadTree(tree)


def bound_words(part):
    """The words that a part binds itself, in the order in which they are written."""
    if part[0] == "rec":
        return [part[1], part[2]]
    if part[0] in BINDING:
        return [part[1]]
    return []


def scopes_in(steps, inner):
    """The list, for each part of a tree, of the dict from the words that are bound there to marks.

    A mark is a tuple of the number of the part that binds the word, and of the word's index among those it binds.
    """
    scopes = [{} for _ in steps]
    for number, part in enumerate(steps):
        head = part[0]
        if head in LEAVES:
            continue
        scope = scopes[number]
        within = inner[number]
        for one in within:
            scopes[one] = scope
        if head == "fn":
            scopes[within[0]] = {**scope, part[1]: (number, 0)}
        elif head == "let":
            scopes[within[1]] = {**scope, part[1]: (number, 0)}
        elif head == "rec":
            scopes[within[1]] = {**scope, part[1]: (number, 0)}
            scopes[within[0]] = {**scopes[within[1]], part[2]: (number, 1)}
        elif is_row(part):
            bound = dict(scope)
            for one in range(within[0], within[1]):
                if steps[one][0] == "bind":
                    bound[steps[one][1]] = (one, 0)
            scopes[within[1]] = bound
    return scopes


def marks_in(steps, inner):
    """A list with an item for each part of a tree: the mark of what binds a name, or None."""
    scopes = scopes_in(steps, inner)
    return [scope.get(part[1]) if part[0] == "name" else None for part, scope in zip(steps, scopes)]


def binder_marks(tree):
    """A list with an item for each part of a tree: the mark of what binds a name, or None."""
    steps = parts_of(tree)
    return marks_in(steps, inner_numbers(steps))


def binder_numbers(tree):
    """What `binders` tells of a tree."""
    return [None if mark is None else mark[0] for mark in binder_marks(tree)]


def with_words(tree, words):
    """The tree in which what binds words, by its number, binds those of a list, and the names are these words."""
    steps = parts_of(tree)
    inner = inner_numbers(steps)
    return with_marked_words(steps, inner, marks_in(steps, inner), words)


def with_marked_words(steps, inner, marks, words):
    """The tree of some parts with other words for what binds, where the marks of its parts are told."""
    made = list(steps)
    for number in range(len(steps) - 1, -1, -1):
        part = steps[number]
        mark = marks[number]
        if inner[number]:
            part = rebuilt(part, [made[one] for one in inner[number]])
        if mark is not None:
            part = ("name", words[mark[0]][mark[1]])
        elif number in words:
            part = (part[0], *words[number], *part[1 + len(words[number]):])
        made[number] = part
    return made[0]


def free_words(steps, marks):
    """The dict of True for the words that are free names among the parts of a tree, in the order of the text."""
    return {part[1]: True for part, mark in zip(steps, marks) if mark is None and part[0] == "name"}


def words_for_binders(steps, marks):
    """The dict from the numbers of the parts of a tree that bind words to the lists of their new words."""
    taken = free_words(steps, marks)
    found = {}
    count = 0
    for number, part in enumerate(steps):
        if part[0] not in BINDING:
            continue
        words = []
        for _ in bound_words(part):
            count += 1
            while "x" + str(count) in taken:
                count += 1
            words.append("x" + str(count))
        found[number] = words
    return found


def new_words(tree):
    """The dict from the numbers of the parts of a tree that bind words to the lists of their new words."""
    return words_for_binders(parts_of(tree), binder_marks(tree))


def with_plain_names(tree):
    """What `plain_names` returns for a tree."""
    steps = parts_of(tree)
    inner = inner_numbers(steps)
    marks = marks_in(steps, inner)
    return with_marked_words(steps, inner, marks, words_for_binders(steps, marks))


def plain_text(tree):
    """The text of the alike tree with plain names: the same one just for trees that are alike."""
    return text_of(with_plain_names(tree))


def binders(tree):
    """A list with an item for each part of a tree: the number of the part that binds a name, or None."""
    check_tree(tree)
    return binder_numbers(tree)


def free(tree):
    """The list of the free names of a tree, each once, in the order of the text."""
    check_tree(tree)
    return list(free_words(parts_of(tree), binder_marks(tree)))


def alike(one, other):
    """Whether two trees are equal but for the choice of the names that are bound in them."""
    check_tree(one)
    check_tree(other)
    return plain_text(one) == plain_text(other)


def plain_names(tree):
    """The alike tree in which the names that are bound are `x1`, `x2` and so on."""
    check_tree(tree)
    return with_plain_names(tree)
