"""Trees in which each binder has a word of its own, and how the words that were there before come back."""
from widestkind.names import bound_words, new_words, with_plain_names, with_words
from widestkind.shapes import folded, is_row, parts_of, sizes_of

LETTERS = "xyzuvwabcdefghijklmnopqrst"


def apart(tree):
    """The alike tree in which no two binders have the same word, and the dict from these words to those of the tree."""
    words = new_words(tree)
    found = {}
    for number, part in enumerate(parts_of(tree)):
        if number in words:
            for new, old in zip(words[number], bound_words(part)):
                found[new] = old
    return with_plain_names(tree), found


def names_within(tree):
    """The dict from the numbers of the parts of a tree to the lists of the words that are names in them."""
    found = {}

    def named(part, number, inner):
        words = {part[1]: True} if not is_row(part) and part[0] == "name" else {}
        for others in inner:
            for word in others:
                words[word] = True
        found[number] = list(words)
        return found[number]

    folded(tree, named)
    return found


def scopes_of(steps, sizes, number, row):
    """The list, for the words that a part binds, of the lists of the numbers of the parts in which they stand for it.

    `row` is the number of the row in whose pattern the part is, if it is in a pattern.
    """
    part = steps[number]
    behind = number + 1 + sizes[number + 1] if number + 1 < len(steps) else 0
    if part[0] == "fn":
        return [[number + 1]]
    if part[0] == "let":
        return [[behind]]
    if part[0] == "rec":
        return [[number + 1, behind], [number + 1]]
    return [[row + 1 + sizes[row + 1]]]


def fresh_word(taken):
    """A word that is not taken."""
    count = 0
    while LETTERS[count // 999] + str(count % 999 + 1) in taken:
        count += 1
    return LETTERS[count // 999] + str(count % 999 + 1)


def with_kept_words(tree, table):
    """The tree in which binders have the words that a dict tells for theirs, but for those that would catch a name."""
    steps = parts_of(tree)
    sizes = sizes_of(steps)
    names = names_within(tree)
    taken = {word: True for word in [*list(table.values()), *names[0]]}
    last = {word: word for word in names[0] if word not in table}
    words = {}
    row = 0
    for number, part in enumerate(steps):
        if is_row(part):
            row = number
        elif bound_words(part):
            words[number] = []
            for word, scopes in zip(bound_words(part), scopes_of(steps, sizes, number, row)):
                around = [last[name] for scope in scopes for name in names[scope] if name in last]
                kept = table[word]
                if kept in around:
                    kept = fresh_word(taken)
                    taken[kept] = True
                words[number].append(kept)
            for word, kept in zip(bound_words(part), words[number]):
                last[word] = kept
    return with_words(tree, words)
