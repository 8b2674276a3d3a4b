"""The steps that make trees shorter, for trees in which no two binders have the same word."""
from widestkind.numberforms import has_digits, has_powers, worked_out
from widestkind.shapes import folded, numbers_within, parts_in, parts_of, rebuilt, sizes_of
from widestkind.words import is_plain_word

RULES = ("call", "let", "rec", "fn", "field", "with", "match", "rows", "op")
EMPTY = ("record", ())


def is_plain_number(tree):
    """Whether a tree is a number that can be written at run."""
    return tree[0] == "number" and has_digits(tree[1]) and has_powers(tree[2] or ())


def plain_parts(steps):
    """The list, for each part of a tree, of whether it is plain; definitions are names without numbers."""
    done = []
    found = []
    for part in steps[::-1]:
        inner = [done.pop() for _ in parts_in(part)]
        plain = part[0] in ("fn", "told", "record", "tag") and (part[0] == "fn" or all(inner))
        if part[0] == "name":
            plain = not is_plain_word(part[1])
        elif part[0] == "number":
            plain = is_plain_number(part)
        done.append(plain)
        found.append(plain)
    return found[::-1]


def how_sure(pattern, tree):
    """Whether a pattern surely fits a plain tree, True, or surely fails, False; None if neither is so."""
    if pattern[0] in ("any", "bind"):
        return True
    if pattern[0] != tree[0]:
        return None
    if pattern[0] == "tag":
        return False if pattern[1] != tree[1] else how_sure(pattern[2], tree[2])
    entries = dict(tree[1])
    if [label for label, _ in pattern[1] if label not in entries]:
        return None
    told = [how_sure(inner, entries[label]) for label, inner in pattern[1]]
    return None if None in told else all(told)


def bound_parts(pattern, tree):
    """The list of the tuples of the names of a pattern that fits a tree, and of the parts at which they stand."""
    if pattern[0] == "bind":
        return [(pattern[1], tree)]
    found = []
    if pattern[0] == "tag":
        found.extend(bound_parts(pattern[2], tree[2]))
    elif pattern[0] == "record":
        for label, inner in pattern[1]:
            found.extend(bound_parts(inner, dict(tree[1])[label]))
    return found


def takes_everything(pattern):
    """Whether a pattern is `_`, a name, or a record pattern of such patterns only."""
    return not any([part[0] == "tag" for part in parts_of(pattern)])


def sure_row(tree):
    """The first row of a match that surely fits, if all rows before surely fail; or None."""
    for row in tree[2]:
        told = how_sure(row[0], tree[1])
        if told is None:
            return None
        if told:
            return row
    return None


def kept_rows(tree):
    """The rows of a match up to the first one that takes everything; or None if no row is behind it."""
    for index, row in enumerate(tree[2][:-1]):
        if takes_everything(row[0]):
            return tree[2][:index + 1]
    return None


def is_bare_zero(tree):
    """Whether a number is 0 without a measure."""
    return tree[1] == 0 and tree[2] is None


def compared(one, other):
    """What comes of `<` of two numbers, or None."""
    if not is_bare_zero(one) and not is_bare_zero(other) and one[2] != other[2]:
        return None
    return ("tag", "Yes" if one[1] < other[1] else "No", EMPTY)


def operated(sign, one, other):
    """What comes of an operation on two numbers, as a number or a tag, or None if it cannot be written."""
    if sign == "<":
        return compared(one, other)
    if sign == "/" and other[1] == 0:
        return None
    bare = [is_bare_zero(one), is_bare_zero(other)]
    if sign in ("+", "-"):
        if not any(bare) and one[2] != other[2]:
            return None
        measure = other[2] if bare[0] else one[2]
        number = one[1] + other[1] if sign == "+" else one[1] - other[1]
        found = ("number", number, measure)
    else:
        top, bottom, measure = worked_out(sign, (one[1], 1, one[2] or ()), (other[1], 1, other[2] or ()))
        if top // bottom * bottom != top:
            return None
        found = ("number", top // bottom, measure if measure and not any(bare) else None)
    return found if found[1] >= 0 and is_plain_number(found) else None


class Short:
    """A tree with what is asked of its parts: which are plain, how large they are, and where words stand as names."""

    def __init__(self, tree):
        self.root = tree
        self.steps = parts_of(tree)
        self.sizes = sizes_of(self.steps)
        self.plain = plain_parts(self.steps)
        self.spots = {}
        for number, part in enumerate(self.steps):
            if part[0] == "name":
                self.spots.setdefault(part[1], []).append(number)

    def uses(self, word, number):
        """How often a word stands as a name in the part with a number."""
        behind = number + self.sizes[number]
        return len([at for at in self.spots.get(word, []) if number <= at < behind])

    def result_of(self, rule, number):
        """What a rule makes of the part with a number, or None if it does not make anything."""
        part = self.steps[number]
        head = part[0]
        if rule == "call":
            return ("let", part[1][1], part[2], part[1][2]) if head == "call" and part[1][0] == "fn" else None
        if rule == "let":
            return self._made_of_let(part, number) if head == "let" else None
        if rule in ("rec", "fn"):
            return self._made_of_rec(rule, part, number) if head == "rec" else None
        if rule == "op":
            if head != "op" or not is_plain_number(part[2]) or not is_plain_number(part[3]):
                return None
            return operated(part[1], part[2], part[3])
        if rule == "rows":
            rows = kept_rows(part) if head == "match" else None
            return None if rows is None else ("match", part[1], rows)
        if head != rule or not self.plain[number + 1]:
            return None
        return made_of_match(part) if rule == "match" else made_of_record(part)

    def _made_of_let(self, part, number):
        """The tree of a `let` with what its word stands for in the place of its one use."""
        _, word, given, tree = part
        if not self.plain[number + 1] or self.uses(word, number) > 1:
            return None

        def put(one, at, inner):
            return given if one[0] == "name" and one[1] == word else rebuilt(one, inner)

        return folded(tree, put)

    def _made_of_rec(self, rule, part, number):
        _, word, other, given, tree = part
        inner = numbers_within(number, 2, self.sizes)
        used = self.uses(word, inner[1]) > 0
        if rule == "rec":
            return None if used else tree
        if not used or self.uses(word, inner[0]) > 0:
            return None
        return ("let", word, ("fn", other, given), tree)

    def all_steps(self):
        """The list of all steps, in ascending order of their numbers and then of the rules."""
        found = []
        for number in range(len(self.steps)):
            found.extend([(rule, number) for rule in RULES if self.result_of(rule, number) is not None])
        return found

    def first_step(self):
        """The first step, or None if there is none."""
        for number in range(len(self.steps)):
            for rule in RULES:
                if self.result_of(rule, number) is not None:
                    return rule, number
        return None

    def after(self, rule, number):
        """The tree behind a step."""
        new = self.result_of(rule, number)

        def changed(part, at, inner):
            return new if at == number else rebuilt(part, inner)

        return folded(self.root, changed)


def made_of_match(part):
    """What a match of a plain tree becomes, or None: the tree of a row within lets for the names of its pattern."""
    row = sure_row(part)
    if row is None:
        return None
    tree = row[1]
    for word, given in bound_parts(row[0], part[1])[::-1]:
        tree = ("let", word, given, tree)
    return tree


def made_of_record(part):
    """What a field of a written record, or such a record with another entry, becomes; or None."""
    record, label = part[1], part[2]
    if record[0] != "record" or label not in dict(record[1]):
        return None
    if part[0] == "field":
        return dict(record[1])[label]
    return ("record", tuple([(one, part[3] if one == label else inner) for one, inner in record[1]]))
