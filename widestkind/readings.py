"""What hangs on what in a book: the verdicts of definitions, and the readings by which they can change."""
from widestkind.books import first_unknown
from widestkind.errors import NoKind
from widestkind.expanding import first_bad_call
from widestkind.kinds import kind_text
from widestkind.kindwalks import kinds_of, own_kinds_in
from widestkind.names import binder_numbers, plain_text
from widestkind.shapes import parts_of
from widestkind.widest import widest
from widestkind.wholes import Whole

PARTS = ("tree", "group", "tags", "kinds", "uses")


def tags_of(part):
    """The tags in a tree or a pattern that stand in no part within it."""
    if part[0] == "tag":
        return [part[1]]
    if part[0] != "told":
        return []
    variants = [kind for kind in kinds_of(part[2]) if kind[0] == "variant"]
    return [entry[0] for kind in variants for entry in kind[1]]


def told_kinds(part):
    """The names of the own kinds in a tree that stand in no part within it."""
    return [name for name, _ in own_kinds_in(part[2])] if part[0] == "told" else []


def own_kind_texts(book, names):
    """The dict from own kinds, and those in their contents, to tuples of all that is told of them, or to None."""
    found = {}
    waiting = list(names)
    while waiting:
        name = waiting.pop()
        if name in found:
            continue
        if name not in book.kinds():
            found[name] = None
            continue
        contents = [(tag, book.kind_of(tag)[2]) for tag in book.constructors(name)]
        texts = tuple([(tag, kind_text(kind)) for tag, kind in contents])
        found[name] = (tuple(book.parameters(name)), texts)
        waiting.extend([other for _, kind in contents for other, _ in own_kinds_in(kind)])
    return found


class Group:
    """A group of definitions of a book: its trees, and its macro that cannot be expanded or None."""

    def __init__(self, book, names):
        self.book = book
        self.members = names
        macros = {name: book.template_of(name) for name in book.macros()}
        bad = [first_bad_call(book.tree_of(name), macros) for name in names]
        self.macro = ([name for name in bad if name is not None] + [None])[0]
        if self.macro is None:
            self.trees = [book.expansion_of(name)[0] for name in names]
        else:
            self.trees = [book.tree_of(name) for name in names]

    def parts_with_binders(self):
        """The list of the tuples of each part of the trees, in their order, and of what binds it."""
        found = []
        for tree in self.trees:
            found.extend(list(zip(parts_of(tree), binder_numbers(tree))))
        return found

    def free_names(self):
        """The list of the names that are not bound in the trees, each once, in their order."""
        found = {}
        for part, binder in self.parts_with_binders():
            if part[0] == "name" and binder is None:
                found[part[1]] = True
        return list(found)

    def first_unknown_name(self):
        """The first name that stands for nothing, or own kind that is not told, or None."""
        defined = self.book.definitions()
        for part, binder in self.parts_with_binders():
            wrong = None
            if part[0] == "name" and binder is None and part[1] not in defined:
                wrong = part[1]
            elif part[0] == "told":
                wrong = first_unknown(self.book, part[2])
            if wrong is not None:
                return wrong
        return None

    def used_outside(self):
        """The list of the names that are used and are no definition of the group; none if it cannot be expanded."""
        if self.macro is not None:
            return []
        return [name for name in self.free_names() if name not in self.members]

    def reading(self, verdicts):
        """The tuple of the five things of the reading, where the verdicts of the definitions that are used are told."""
        parts = [part for tree in self.trees for part in parts_of(tree)]
        tags = {}
        named = [name for part in parts for name in told_kinds(part)]
        for tag in [tag for part in parts for tag in tags_of(part)]:
            ours = self.book.kind_of(tag)
            tags[tag] = None if ours is None else ours[0]
            if ours is not None:
                named.append(ours[0])
        texts = (self.macro, [plain_text(tree) for tree in self.trees])
        uses = {name: verdict_text(verdicts.get(name)) for name in self.used_outside()}
        return texts, self.members, tags, own_kind_texts(self.book, named), uses

    def verdict(self, name, verdicts):
        """The verdict of a definition of the group, where those of the definitions that are used are told."""
        if self.macro is not None:
            return ("macro", self.macro)
        unknown = self.first_unknown_name()
        if unknown is not None:
            return ("unknown", unknown)
        for used in self.used_outside():
            if verdicts[used][0] != "kind":
                return ("leans", used)
        try:
            return ("kind", widest(Whole(self.book, name)))
        except NoKind:
            return ("clash",)


def verdict_text(verdict):
    """What a reading tells of a definition with a verdict: whether it is there, and the text of its kind."""
    if verdict is None:
        return "gone"
    return "there" if verdict[0] != "kind" else "kind " + kind_text(verdict[1])


def in_turn(groups):
    """The groups, each behind those that it uses."""
    homes = {name: True for group in groups for name in group.members}
    found = []
    done = {}
    left = list(groups)
    while left:
        waiting = []
        for group in left:
            if [name for name in group.used_outside() if name in homes and name not in done]:
                waiting.append(group)
                continue
            found.append(group)
            for name in group.members:
                done[name] = True
        left = waiting
    return found


class State:
    """The lines of a shelf with their book, and the readings and the verdicts of all definitions.

    Where a reading is the one of an earlier state, the verdict is the one that it had there.
    """

    def __init__(self, book, lines, earlier=None):
        self.book = book
        self.rows = lines
        self.readings = {}
        self.told = {}
        for group in in_turn([Group(book, names) for names in book.groups()]):
            reading = group.reading(self.told)
            for name in group.members:
                self.readings[name] = reading
            for name in group.members:
                if earlier is not None and earlier.readings.get(name) == reading:
                    self.told[name] = earlier.told[name]
                else:
                    self.told[name] = group.verdict(name, self.told)

    def has_kind(self, name):
        """Whether a definition has a kind."""
        return name in self.told and self.told[name][0] == "kind"

    def looked_since(self, earlier):
        """The dict from the definitions that a deed looks at, ascending, to what is another thing in their readings."""
        found = {}
        for name in sorted(self.readings):
            if name not in earlier.readings:
                found[name] = ["new"]
                continue
            changed = []
            for word, one, other in zip(PARTS, self.readings[name], earlier.readings[name]):
                if one != other:
                    changed.append(word)
            if changed:
                found[name] = changed
        return found

    def broken_since(self, earlier):
        """The ascending list of the definitions that had a kind, and are there without one."""
        return [name for name in sorted(self.told) if earlier.has_kind(name) and not self.has_kind(name)]

    def healed_since(self, earlier):
        """The ascending list of the definitions that were there without a kind, and have one."""
        there = [name for name in sorted(self.told) if name in earlier.told]
        return [name for name in there if self.has_kind(name) and not earlier.has_kind(name)]
