"""The expansion of trees: templates come in the place of the calls of macros, and no name is caught."""
from widestkind.errors import BadMacro
from widestkind.names import bound_words, check_tree, marks_in, with_marked_words
from widestkind.shapes import LEAVES, inner_numbers, parts_in, parts_of

LETTERS = "xyzuvwabcdefghijklmnopqrst"


def call_is_right(call, macros):
    """Whether the macro of a call is there, and takes the trees that are passed."""
    if call[1] not in macros:
        return False
    words = macros[call[1]][0]
    if len(words) != len(call[2]):
        return False
    return not any([word[0] == "$" and tree[0] != "name" for word, tree in zip(words, call[2])])


def first_bad_call(tree, macros):
    """The name of the macro of the first call in a tree that is not right, or None."""
    for part in parts_of(tree):
        if part[0] == "macro" and not call_is_right(part, macros):
            return part[1]
    return None


def has_calls(tree):
    """Whether a tree calls macros."""
    return any([part[0] == "macro" for part in parts_of(tree)])


class Writer:
    """The text, or one call of a macro: what it writes, and what was passed to it.

    `trees` has for the parameters that are words the parts that were passed, with their numbers and their writers;
    `words` has for those with `$` the names that were passed, as keys. A key is a word with the writer's number, as
    a string, so that a binder binds just the names with its key.
    """

    def __init__(self, number, owner, tree):
        self.count = number
        self.owner = owner
        steps = parts_of(tree)
        self.inner = inner_numbers(steps)
        self.marks = marks_in(steps, self.inner)
        self.trees = {}
        self.words = {}

    def pass_parts(self, words, call, number, other):
        """Takes what a call, which stands at a number of what another writer wrote, passes for parameters."""
        for word, tree, inner in zip(words, call[2], other.inner[number]):
            if word[0] == "$":
                self.words[word] = other.key(tree[1])
            else:
                self.trees[word] = (tree, inner, other)

    def key(self, word):
        """The key of a word that is written."""
        if word[0] == "$":
            return self.words[word]
        return word + " " + str(self.count)

    def stands_for(self, part, number):
        """What was passed for a part that is a parameter: a part, its number and its writer; or None."""
        if part[0] != "name" or self.marks[number] is not None:
            return None
        return self.trees.get(part[1])


def root_parameter(words, template, roots):
    """The index of the parameter for which a template stands as a whole, or None; `roots` tells it of other macros."""
    part = template
    while part[0] == "macro" and roots[part[1]] is not None:
        part = part[2][roots[part[1]]]
    if part[0] == "name" and part[1][0] != "$" and part[1] in words:
        return words.index(part[1])
    return None


def all_roots(macros):
    """The dict from macros to the indexes of the parameters for which their templates stand as a whole, or None."""
    found = {}
    for name, (words, template) in macros.items():
        found[name] = root_parameter(words, template, found)
    return found


class Expansion:
    """The parts of an expansion, in order, with keys in the place of words; their origins; and a count of writers."""

    def __init__(self, macros):
        self.templates = macros
        self.roots = all_roots(macros)
        self.shells = []
        self.origins = []
        self.writers = 0

    def write(self, tree, owner):
        """Goes through a tree, and through what comes in the place of its calls."""
        waiting = [(tree, 0, self._writer(owner, tree))]
        while waiting:
            part, number, writer = waiting.pop()
            passed = writer.stands_for(part, number)
            if passed is not None:
                waiting.append(passed)
            elif part[0] == "macro":
                waiting.append(self._called(part, number, writer))
            else:
                self.shells.append(keyed(part, writer))
                self.origins.append((writer.owner, number))
                if part[0] not in LEAVES:
                    found = [(one, at, writer) for one, at in zip(parts_in(part), writer.inner[number])]
                    waiting.extend(found[::-1])

    def _writer(self, owner, tree):
        self.writers += 1
        return Writer(self.writers, owner, tree)

    def _called(self, call, number, writer):
        """The template of a call, which is written by the call; or what is passed, if the template is but that."""
        words, template = self.templates[call[1]]
        root = self.roots[call[1]]
        if root is not None:
            return call[2][root], writer.inner[number][root], writer
        called = self._writer("@" + call[1], template)
        called.pass_parts(words, call, number, writer)
        return template, 0, called


def keyed(part, writer):
    """A part with keys in the place of the words that it binds or that it is."""
    if part[0] == "name":
        return ("name", writer.key(part[1]))
    words = bound_words(part)
    if not words:
        return part
    return (part[0], *[writer.key(word) for word in words], *part[1 + len(words):])


def fresh_word(taken):
    """A word that is not taken."""
    count = 0
    while LETTERS[count // 999] + str(count % 999 + 1) in taken:
        count += 1
    return LETTERS[count // 999] + str(count % 999 + 1)


def words_for(steps, marks):
    """The dict from the numbers of the parts that bind keys to lists of words, each another one than all others."""
    taken = {}
    for part, mark in zip(steps, marks):
        if mark is None and part[0] == "name":
            taken[part[1].split()[0]] = True
    found = {}
    for number, part in enumerate(steps):
        words = []
        for key in bound_words(part):
            word = key.split()[0]
            if word in taken:
                word = fresh_word(taken)
            taken[word] = True
            words.append(word)
        if words:
            found[number] = words
    return found


def without_keys(steps):
    """The tree of parts with words in the place of keys, so chosen that each name is bound as its key was."""
    inner = inner_numbers(steps)
    marks = marks_in(steps, inner)
    words = words_for(steps, marks)
    plain = []
    for part, mark in zip(steps, marks):
        plain.append(("name", part[1].split()[0]) if mark is None and part[0] == "name" else part)
    return with_marked_words(plain, inner, marks, words)


def expand(macros, tree, owner):
    """What `expanded` returns, for a dict from the names of macros to tuples of parameters and a template."""
    steps = parts_of(tree)
    calls = [part for part in steps if part[0] == "macro"]
    for call in calls:
        if not call_is_right(call, macros):
            raise BadMacro(call[1])
    if not calls:
        return tree, [(owner, number) for number in range(len(steps))]
    expansion = Expansion(macros)
    expansion.write(tree, owner)
    return without_keys(expansion.shells), expansion.origins


def expanded(book, tree, *, owner=""):
    """The tuple of a tree without macros and the list of the origins of its parts."""
    check_tree(tree)
    return expand({name: book.template_of(name) for name in book.macros()}, tree, owner)
