"""What hangs on what in a book: the verdicts of definitions, and the readings by which they can change."""
from widestkind.errors import BadMacro
from widestkind.expanding import has_calls
from widestkind.groundkinds import group_kinds
from widestkind.groups import in_turn
from widestkind.kinds import kind_text
from widestkind.kindwalks import kinds_of, own_kinds_in
from widestkind.names import plain_text
from widestkind.shapes import parts_of
from widestkind.wholes import first_wrong_name

PARTS = ("tree", "group", "tags", "kinds", "uses")


def tags_of(part):
    """The tags in a tree or a pattern that stand in no part within it."""
    if part[0] == "tag":
        return [part[1]]
    if part[0] != "told":
        return []
    variants = [kind for kind in kinds_of(part[2]) if kind[0] == "variant"]
    return [entry[0] for kind in variants for entry in kind[1]]


def told_kinds(part):
    """The names of the own kinds in a tree that stand in no part within it."""
    return [name for name, _ in own_kinds_in(part[2])] if part[0] == "told" else []


def own_kind_texts(book, names):
    """The dict from own kinds, and those in their contents, to tuples of all that is told of them, or to None."""
    found = {}
    waiting = list(names)
    while waiting:
        name = waiting.pop()
        if name in found:
            continue
        if name not in book.kinds():
            found[name] = None
            continue
        contents = [(tag, book.kind_of(tag)[2]) for tag in book.constructors(name)]
        texts = tuple([(tag, kind_text(kind)) for tag, kind in contents])
        found[name] = (tuple(book.parameters(name)), texts)
        waiting.extend([other for _, kind in contents for other, _ in own_kinds_in(kind)])
    return found


class Entry:
    """What the line of a definition and the macros tell of it.

    `macro` is that of the first call that cannot be expanded, or None; `source` is then None.
    """

    def __init__(self, book, line):
        self.line = line
        self.macro = None
        self.source = None
        try:
            self.source = book.source_of(line.name)
        except BadMacro as refused:
            self.macro = refused.name
        self._plain = None

    def plain_tree(self):
        """The text of the expanded tree with plain names, or of the tree as it is if it cannot be expanded."""
        if self._plain is None:
            self._plain = plain_text(self.line.made if self.source is None else self.source.steps[0])
        return self._plain

    def parts_told(self):
        """The parts of this tree."""
        return parts_of(self.line.made) if self.source is None else self.source.steps

    def free_names(self):
        """The list of the names that are not bound, each once, in order; none if it cannot be expanded."""
        return [] if self.source is None else self.source.strays

    def unknown_name(self, book):
        """The first name that stands for nothing in a book, or own kind that it does not tell; or None."""
        return None if self.source is None else first_wrong_name(self.source, book)


class Group:
    """A group of definitions of a book: their names and Entries. `outside` are the names that it uses outside of it."""

    def __init__(self, book, names, entries):
        self.book = book
        self.members = names
        self.entries = entries
        self.macro = ([entry.macro for entry in entries if entry.macro is not None] + [None])[0]
        words = {}
        for entry in entries:
            for word in entry.free_names():
                words[word] = True
        self.outside = [word for word in words if word not in names]
        self._tags = None
        self._owns = None

    def plain_texts(self):
        """The texts of the trees, with plain names, and the macro that cannot be expanded or None."""
        return self.macro, [entry.plain_tree() for entry in self.entries]

    def tags(self):
        """The dict from the tags in the trees to their own kinds, or None for those that have none."""
        if self._tags is None:
            self._tags = {}
            for tag in [tag for entry in self.entries for part in entry.parts_told() for tag in tags_of(part)]:
                ours = self.book.kind_of(tag)
                self._tags[tag] = None if ours is None else ours[0]
        return self._tags

    def own_kinds(self):
        """What is told of the own kinds that the trees name, or of which they have tags, and of those in these."""
        if self._owns is None:
            named = [name for entry in self.entries for part in entry.parts_told() for name in told_kinds(part)]
            named.extend([name for name in self.tags().values() if name is not None])
            self._owns = own_kind_texts(self.book, named)
        return self._owns

    def changes(self, other):
        """The list of what is another thing than in another group, but for what is used."""
        if self == other:
            return []
        mine = (self.plain_texts(), self.members, self.tags(), self.own_kinds())
        theirs = (other.plain_texts(), other.members, other.tags(), other.own_kinds())
        return [word for word, one, two in zip(PARTS, mine, theirs) if one != two]

    def verdicts(self, book, told):
        """The dict from the definitions of the group to their verdicts in a book, where those of others are told."""
        if self.macro is not None:
            return {name: ("macro", self.macro) for name in self.members}
        for entry in self.entries:
            unknown = entry.unknown_name(book)
            if unknown is not None:
                return {name: ("unknown", unknown) for name in self.members}
        for used in self.outside:
            if told[used][0] != "kind":
                return {name: ("leans", used) for name in self.members}
        kinds = group_kinds(book, self.members, {used: told[used][1] for used in self.outside})
        if kinds is None:
            return {name: ("clash",) for name in self.members}
        return {name: ("kind", kinds[name]) for name in self.members}


class State:
    """The lines of a shelf with their book, and the readings and the verdicts of all definitions.

    Where a reading is the one of an earlier state, the verdict is the one that it had there. By definitions: `entries`,
    `group_of`; `told`, the verdicts, and `shown`, what readings tell of those; and `used`, this of all that is used.
    """

    def __init__(self, book, lines, earlier=None):
        self.book = book
        self.rows = lines
        self.entries = {}
        self.group_of = {}
        self.told = {}
        self.shown = {}
        self.used = {}
        self.lots_kept = None
        if earlier is not None:
            book.take_over(earlier.book)
        self._put_entries(earlier)
        groups = book.groups()
        self._put_groups(groups, earlier)
        for names in in_turn(groups, {name: group.outside for name, group in self.group_of.items()}):
            self._settle(self.group_of[names[0]], earlier)

    def _put_entries(self, earlier):
        """Puts in the Entries; one that tells the same as an earlier one is that one."""
        same = earlier is not None and self.book.texts_of("macro") == earlier.book.texts_of("macro")
        for line in self.book.lines_read():
            if line.head != "def":
                continue
            before = None if earlier is None else earlier.entries.get(line.name)
            if before is not None and before.line.shown == line.shown and (same or not has_calls(line.made)):
                self.entries[line.name] = before
            else:
                self.entries[line.name] = Entry(self.book, line)

    def _put_groups(self, groups, earlier):
        """Puts in the Groups; one of the same Entries and own kinds as an earlier one is that one."""
        same = earlier is not None and self.book.texts_of("kind") == earlier.book.texts_of("kind")
        for names in groups:
            entries = [self.entries[name] for name in names]
            group = earlier.group_of.get(names[0]) if same else None
            if group is None or group.entries != entries:
                group = Group(self.book, names, entries)
            for name in names:
                self.group_of[name] = group

    def _settle(self, group, earlier):
        """Tells the verdicts of a group, behind those of all that it uses."""
        uses = {word: self.shown.get(word, "gone") for word in group.outside}
        for name in group.members:
            self.used[name] = uses
        new = []
        for name in group.members:
            if earlier is not None and name in earlier.told and not self.changes_since(earlier, name):
                self.told[name] = earlier.told[name]
                self.shown[name] = earlier.shown[name]
            else:
                new.append(name)
        if new:
            found = group.verdicts(self.book, self.told)
            for name in new:
                self.told[name] = found[name]
                self.shown[name] = verdict_text(found[name])

    def changes_since(self, earlier, name):
        """The list of what is another thing in the reading of a definition than in an earlier state."""
        found = self.group_of[name].changes(earlier.group_of[name])
        if self.used[name] != earlier.used[name]:
            found.append("uses")
        return found

    def has_kind(self, name):
        """Whether a definition is there and has a kind."""
        return name in self.told and self.told[name][0] == "kind"

    def looked_since(self, earlier):
        """The dict from the definitions that are looked at to what was another thing in their readings."""
        found = {}
        for name in sorted(self.told):
            changed = self.changes_since(earlier, name) if name in earlier.told else ["new"]
            if changed:
                found[name] = changed
        return found

    def broken_since(self, earlier):
        """The ascending list of the definitions that had a kind, and are there without one."""
        return [name for name in sorted(self.told) if earlier.has_kind(name) and not self.has_kind(name)]

    def healed_since(self, earlier):
        """The ascending list of the definitions that were there without a kind, and have one."""
        there = [name for name in sorted(self.told) if name in earlier.told]
        return [name for name in there if self.has_kind(name) and not earlier.has_kind(name)]


def verdict_text(verdict):
    """What a reading tells of a definition with a verdict: whether it has a kind, and the text of this."""
    return "there" if verdict[0] != "kind" else "kind " + kind_text(verdict[1])
