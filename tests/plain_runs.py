"""A plain way to run texts, by environments, that tests hold `run` against; and texts drawn by a seed."""
import random
from fractions import Fraction

from widestkind.measures import power, times
from widestkind.shapes import is_row, numbers_within, parts_in, parts_of, sizes_of


class Stop(Exception):
    """The end of a run before a value: what `run` tells."""


class Tree:
    """An expanded tree with the places of its parts."""

    def __init__(self, tree, places):
        self.steps = parts_of(tree)
        self.sizes = sizes_of(self.steps)
        self.places = places

    def inner(self, number):
        return numbers_within(number, len(parts_in(self.steps[number])), self.sizes)


class Plain:
    def __init__(self, whole, budget):
        self.whole = whole
        self.left = budget
        self.definitions = {}
        self.text = Tree(whole.tree(), [place for place, _, _ in whole.knots()])

    def call(self):
        if self.left == 0:
            raise Stop(("dry",))
        self.left -= 1

    def ends(self):
        try:
            return ("done", self.work(self.text, 0, {}))
        except Stop as end:
            return end.args[0]

    def work(self, tree, number, names):
        part = tree.steps[number]
        inner = tree.inner(number)
        head = part[0]
        if head == "number":
            return self.number(Fraction(part[1]), part[2] or ())
        if head == "name":
            if part[1] in names:
                return names[part[1]]
            self.call()
            if part[1] not in self.definitions:
                self.definitions[part[1]] = Tree(*self.whole.book.expansion_of(part[1]))
            return self.work(self.definitions[part[1]], 0, {})
        if head == "fail":
            raise Stop(("fault", part[1]))
        if head == "fn":
            return ("fn", tree, inner[0], names, None, part[1])
        if head == "rec":
            value = ("fn", tree, inner[0], names, part[1], part[2])
            return self.work(tree, inner[1], {**names, part[1]: value})
        if head == "let":
            return self.work(tree, inner[1], {**names, part[1]: self.work(tree, inner[0], names)})
        if head == "match":
            return self.match(tree, number, part, inner, names)
        values = [self.work(tree, one, names) for one in inner]
        if head == "record":
            return ("record", {entry[0]: value for entry, value in zip(part[1], values)})
        if head == "tag":
            return ("tag", part[1], values[0])
        if head == "told":
            return values[0]
        if head == "call":
            return self.apply(tree.places[number], *values)
        if head == "op":
            return self.operate(tree.places[number], part[1], *values)
        if values[0][0] != "record" or part[2] not in values[0][1]:
            raise Stop(("stuck", tree.places[number]))
        if head == "field":
            return values[0][1][part[2]]
        return ("record", {**values[0][1], part[2]: values[1]})

    def match(self, tree, number, part, inner, names):
        value = self.work(tree, inner[0], names)
        for row, at in zip(part[2], inner[1:]):
            found = fits(row[0], value)
            if found is not None:
                return self.work(tree, tree.inner(at)[1], {**names, **found})
        raise Stop(("missed", tree.places[number]))

    def apply(self, place, called, given):
        if called[0] != "fn":
            raise Stop(("stuck", place))
        self.call()
        _, tree, number, names, itself, word = called
        around = dict(names)
        if itself is not None:
            around[itself] = called
        return self.work(tree, number, {**around, word: given})

    def number(self, value, measure):
        if value == 0:
            return ("number", value, ())
        if max(abs(value.numerator), value.denominator) >= 10 ** 12 or any(abs(power) > 99 for _, power in measure):
            raise Stop(("fault", "great"))
        return ("number", value, measure)

    def operate(self, place, sign, one, other):
        if one[0] != "number" or other[0] != "number":
            raise Stop(("stuck", place))
        if sign == "*":
            return self.number(one[1] * other[1], times(one[2], other[2]))
        if sign == "/":
            if other[1] == 0:
                raise Stop(("fault", "zero"))
            return self.number(one[1] / other[1], times(one[2], power(other[2], -1)))
        if one[1] != 0 and other[1] != 0 and one[2] != other[2]:
            raise Stop(("stuck", place))
        if sign == "<":
            return ("tag", "Yes" if one[1] < other[1] else "No", ("record", {}))
        measure = one[2] if one[1] != 0 else other[2]
        return self.number(one[1] + other[1] if sign == "+" else one[1] - other[1], measure)


def fits(pattern, value):
    if pattern[0] == "any":
        return {}
    if pattern[0] == "bind":
        return {pattern[1]: value}
    if pattern[0] == "tag":
        return fits(pattern[2], value[2]) if value[0] == "tag" and value[1] == pattern[1] else None
    found = {}
    for label, inner in pattern[1]:
        told = fits(inner, value[1][label]) if value[0] == "record" and label in value[1] else None
        if told is None:
            return None
        found.update(told)
    return found if value[0] == "record" else None


def number_tree(value, measure):
    if value < 0:
        return ("op", "-", ("number", 0, None), number_tree(-value, measure))
    if value.denominator != 1:
        top = ("number", value.numerator, measure or None)
        return ("op", "/", top, ("number", value.denominator, None))
    return ("number", value.numerator, measure or None)


def data_tree(value):
    """The tree of a value, with entries in ascending order; None if a function stands in it."""
    if value[0] == "number":
        return number_tree(value[1], value[2])
    if value[0] == "tag":
        inner = data_tree(value[2])
        return None if inner is None else ("tag", value[1], inner)
    if value[0] == "record":
        entries = tuple((label, data_tree(value[1][label])) for label in sorted(value[1]))
        return None if any(inner is None for _, inner in entries) else ("record", entries)
    return None


BOOK = """kind tree 'a = Leaf | Node({left : tree('a), here : 'a})
kind day = Sun | Rain({cm : num[cm]})
macro swap($x, e) = fn y -> let $x = y in e(y)
macro if(c, a, b) = match c {Yes -> a; No -> b}
macro both(e) = {a = e, b = e}
macro id(e) = e
def one = 1
def two = one + one
def even = fn n -> @if(n < 1, Yes, odd(n - 1))
def odd = fn n -> @if(n < 1, No, even(n - 1))
def add = fn x -> fn y -> x + y
def wrap = @both(fn x -> {v = x})"""

WORDS = ["x", "y", "z", "f", "g"]
LEAVES = [("number", 0, None), ("number", 1, None), ("number", 3, None), ("number", 2, (("m", 1),)), ("number", 4, (("s", 1),)),
          ("number", 6, (("m", 1), ("s", -1))), ("tag", "A", ("record", ())), ("tag", "B", ("record", ())),
          ("tag", "Leaf", ("record", ())), ("tag", "Sun", ("record", ())), ("record", ()), ("fail", "w")]
KINDS = [("num", ()), ("name", "'a"), ("num", (("'m", 1),)), ("fn", ("name", "'a"), ("name", "'b")),
         ("variant", (("A", ("record", (), None)),), "'r"), ("record", (("a", ("name", "'a")),), "'r")]


class Draws:
    """Draws trees and patterns by a seed."""

    def __init__(self, seed):
        self.by = random.Random(seed)

    def pattern(self, depth, used):
        draw = self.by.random()
        if depth <= 0 or draw < 0.3:
            left = [word for word in WORDS if word not in used]
            if left and self.by.random() < 0.6:
                used.append(self.by.choice(left))
                return ("bind", used[-1])
            return ("any",)
        if draw < 0.8:
            return ("tag", self.by.choice(["A", "B", "Leaf", "Node", "Sun"]), self.pattern(depth - 1, used))
        labels = self.by.sample(["a", "b", "left"], self.by.randrange(3))
        return ("record", tuple((label, self.pattern(depth - 1, used)) for label in labels))

    def tree(self, depth, names):
        by = self.by
        if depth <= 0 or by.random() < 0.2:
            if names and by.random() < 0.6:
                return ("name", by.choice(names))
            return by.choice(LEAVES)
        word, other = by.sample(WORDS, 2)
        head = by.choice(["fn", "call", "call", "call", "let", "let", "rec", "record", "with", "field", "tag", "match", "match", "op",
                          "op", "told", "macro"])
        if head == "fn":
            return ("fn", word, self.tree(depth - 1, [*names, word]))
        if head == "let":
            return ("let", word, self.tree(depth - 1, names), self.tree(depth - 1, [*names, word]))
        if head == "rec":
            return ("rec", word, other, self.tree(depth - 1, [*names, word, other]), self.tree(depth - 1, [*names, word]))
        if head == "match":
            rows = []
            for _ in range(by.randrange(1, 4)):
                used = []
                pattern = self.pattern(2, used)
                rows.append((pattern, self.tree(depth - 1, [*names, *used])))
            return ("match", self.tree(depth - 1, names), tuple(rows))
        if head == "record":
            return ("record", tuple((label, self.tree(depth - 1, names)) for label in by.sample(["b", "a", "here"], by.randrange(3))))
        one = self.tree(depth - 1, names)
        if head == "field":
            return ("field", one, by.choice("ab"))
        if head == "tag":
            return ("tag", by.choice(["A", "B", "Node"]), one)
        if head == "told":
            return ("told", one, by.choice(KINDS))
        if head == "macro" and names and by.random() < 0.4:
            return ("macro", "swap", (("name", by.choice(names)), one))
        if head == "macro":
            return ("macro", by.choice(["both", "id"]), (one,))
        two = self.tree(depth - 1, names)
        if head == "call":
            return ("call", ("fn", word, self.tree(depth - 1, [*names, word])) if by.random() < 0.5 else one, two)
        if head == "with":
            return ("with", one, by.choice("ab"), two)
        return ("op", by.choice("+-*/<"), one, two)

    def names(self):
        return [name for name in ["one", "two", "even", "odd", "add", "wrap"] if self.by.random() < 0.3]


def drawn_wholes(seed, many, make, depths=(3, 4, 5)):
    """So many wholes, made by a function of a book and a text, of trees drawn by a seed."""
    from widestkind.errors import KindError
    from widestkind.trees import show

    draws = Draws(seed)
    found = []
    while len(found) < many:
        tree = draws.tree(draws.by.choice(depths), draws.names())
        if len(parts_of(tree)) > 100 or is_row(tree):
            continue
        try:
            found.append(make(show(tree)))
        except KindError:
            continue
    return found
