"""The rules by which the kinds of the parts of a form come of the kinds of the parts within them."""
from widestkind.books import first_unknown_of
from widestkind.errors import BadFilling
from widestkind.fillings import is_filling
from widestkind.kinds import fill, fill_all
from widestkind.kindwalks import uses_and_owns, uses_in
from widestkind.measures import power, times
from widestkind.pieces import first_stray

ANSWER = ("variant", (("No", ("record", (), None)), ("Yes", ("record", (), None))), None)


class Scope:
    """A word that is bound, with the number of its kind, and the names with which it is bound, or None.

    `around` is the Scope of the word that is bound around it, or None.
    """

    def __init__(self, word, number, loose, around):
        self.word = word
        self.number = number
        self.loose = loose
        self.around = around


def lookup(scope, word):
    """The Scope of the innermost word like this one, or None."""
    while scope is not None and scope.word != word:
        scope = scope.around
    return scope


class Rules:
    """The rules for a book, and the numbers of kinds."""

    def __init__(self, book, numbers):
        self.book = book
        self.numbers = numbers
        self.kinds_right = {}
        self.names_in_kinds = {}
        self.contents = {}

    def form(self, number):
        """The form of the kind with a number."""
        return self.numbers.forms[number]

    def is_right(self, number):
        """Whether what has a number, and is built like a kind, is a kind of the book."""
        if number not in self.kinds_right:
            uses, owns = uses_and_owns(self.numbers.whole[number])
            self.kinds_right[number] = first_stray(uses) is None and first_unknown_of(self.book, owns) is None
        return self.kinds_right[number]

    def are_free(self, names, scope):
        """Whether none of some names stands in a kind with which a word is bound, but with this name."""
        while scope is not None and names != ():
            if scope.number not in self.names_in_kinds:
                uses = uses_in(self.numbers.whole[scope.number])
                self.names_in_kinds[scope.number] = {name: True for name, _ in uses}
            bound = () if scope.loose is None else scope.loose
            for name in names:
                if name in self.names_in_kinds[scope.number] and name not in bound:
                    return False
            scope = scope.around
        return True

    def content(self, number, tag):
        """The number of the kind of the content of a tag in a kind, or None if the kind has no such tag."""
        head, steps, rest = self.form(number)
        told = self.book.kind_of(tag)
        if told is None:
            return steps.get(tag) if head == "variant" else None
        name, words, content = told
        if head != "own" or rest != name:
            return None
        if (number, tag) not in self.contents:
            kinds = [self.numbers.whole[steps[index]] for index in range(len(words))]
            self.contents[(number, tag)] = self.numbers.number_of(fill_all(content, dict(zip(words, kinds))))
        return self.contents[(number, tag)]

    def entry(self, number, label):
        """The number of the kind of an entry of a record, or None if the kind has no such entry."""
        head, steps, _ = self.form(number)
        return steps.get("." + label) if head == "record" else None

    def behind(self, number, way):
        """The number of the kind to which a way of tags and labels leads."""
        for step in way:
            number = self.entry(number, step[1:]) if step[0] == "." else self.content(number, step)
        return number

    def filled(self, number, table):
        """The number of a kind with things in the place of names, or None if it cannot be filled so."""
        try:
            kind = fill(self.numbers.whole[number], table)
        except BadFilling:
            return None
        return self.numbers.number_of(kind)


def of_number(rules, part, scope, kinds):
    written, measure = part[2], part[3]
    if written is not None and measure != written or written is None and part[1] != 0 and measure != ():
        return None
    return rules.numbers.number_with(("num", measure), [])


def of_name(rules, part, scope, kinds):
    bound = lookup(scope, part[1])
    if bound is None:
        return None
    if bound.loose is None:
        return bound.number if part[2] is None else None
    if part[2] is None or tuple([name for name, _ in part[2]]) != bound.loose:
        return None
    return rules.filled(bound.number, {name: thing for name, thing in part[2]})


def of_fail(rules, part, scope, kinds):
    return rules.numbers.number_of(part[2])


def of_function(rules, part, scope, kinds):
    """Of an `fn`, as of a `rec`, the kind that is written in it comes ahead of those of the parts within it."""
    return rules.numbers.number_with(("fn", part[2], rules.numbers.whole[kinds[1]]), kinds)


def of_call(rules, part, scope, kinds):
    head, steps, _ = rules.form(kinds[0])
    return steps["to"] if head == "fn" and steps["from"] == kinds[1] else None


def of_let(rules, part, scope, kinds):
    return kinds[1] if rules.are_free(part[2], scope) else None


def of_rec(rules, part, scope, kinds):
    steps = rules.form(kinds[0])[1]
    return kinds[2] if steps["to"] == kinds[1] and rules.are_free(part[3], scope) else None


def record_number(rules, entries, rest):
    """The number of the kind of a record with a dict from labels to the numbers of kinds."""
    labels = sorted(entries)
    kind = ("record", tuple([(label, rules.numbers.whole[entries[label]]) for label in labels]), rest)
    return rules.numbers.number_with(kind, [entries[label] for label in labels])


def of_record(rules, part, scope, kinds):
    return record_number(rules, {entry[0]: kind for entry, kind in zip(part[1], kinds)}, None)


def of_with(rules, part, scope, kinds):
    if rules.entry(kinds[0], part[2]) is None:
        return None
    _, steps, rest = rules.form(kinds[0])
    entries = {step[1:]: number for step, number in steps.items()}
    entries[part[2]] = kinds[1]
    return record_number(rules, entries, rest)


def of_field(rules, part, scope, kinds):
    return rules.entry(kinds[0], part[2])


def of_tag(rules, part, scope, kinds):
    number = rules.numbers.number_of(part[3])
    return number if rules.content(number, part[1]) == kinds[0] else None


def of_op(rules, part, scope, kinds):
    one, other = rules.form(kinds[0]), rules.form(kinds[1])
    if one[0] != "num" or other[0] != "num":
        return None
    if part[1] == "*":
        return rules.numbers.number_with(("num", times(one[2], other[2])), [])
    if part[1] == "/":
        return rules.numbers.number_with(("num", times(one[2], power(other[2], -1))), [])
    if kinds[0] != kinds[1]:
        return None
    return rules.numbers.number_of(ANSWER) if part[1] == "<" else kinds[0]


def of_told(rules, part, scope, kinds):
    return kinds[0] if is_filling(rules.numbers.whole[kinds[0]], part[2]) else None


RULES = {
    "number": of_number,
    "name": of_name,
    "fail": of_fail,
    "fn": of_function,
    "call": of_call,
    "let": of_let,
    "rec": of_rec,
    "record": of_record,
    "with": of_with,
    "field": of_field,
    "tag": of_tag,
    "op": of_op,
    "told": of_told,
}


def kind_by_rule(rules, part, scope, kinds):
    """The number of the kind of a part, of which those of the parts within it are told, or None if it is wrong."""
    rule = RULES[part[0]]
    return rule(rules, part, scope, kinds)
