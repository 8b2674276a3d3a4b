"""Goes through the parts of a form and tells their kinds, with a list of what is to come in the place of recursion."""
from widestkind.closings import closings
from widestkind.errors import BadForm
from widestkind.formrules import Rules, Scope, kind_by_rule
from widestkind.formshapes import LEAVES, form_parts_in, form_sizes, pattern_parts_in
from widestkind.kindnumbers import KindNumbers
from widestkind.shapes import numbers_within


class FormJudge:
    """What is still to be done, as tuples of a word, a part, its number and what words are bound; and the kinds that
    are told of the parts that are done, by their numbers.

    `bound` has for the numbers of the parts `fn` and `rec` the number of the kind that is written in them.
    """

    def __init__(self, book, sizes):
        self.book = book
        self.sizes = sizes
        self.rules = Rules(book, KindNumbers())
        self.waiting = []
        self.done = []
        self.bound = {}

    def kind_number(self, kind):
        """The number of a kind."""
        return self.rules.numbers.number_of(kind)

    def judge_tree(self, tree, number, scope):
        """The number of the kind of a form tree with a number."""
        self.waiting.append(("enter", tree, number, scope))
        while self.waiting:
            task, part, number, scope = self.waiting.pop()
            if task == "enter":
                if part[0] in LEAVES:
                    self._leave(part, number, scope, [])
                else:
                    self._enter(part, number, scope)
            elif task == "body":
                self._enter_body(part, number, scope)
            elif task == "row":
                self._enter_row(part, number, scope)
            elif task == "leave row":
                self._leave_row(part, number)
            else:
                first = len(self.done) - len(form_parts_in(part))
                kinds = self.done[first:]
                del self.done[first:]
                self._leave(part, number, scope, kinds)
        return self.done.pop()

    def _inner(self, part, number):
        """The numbers of the parts directly within a part."""
        many = len(form_parts_in(part)) if not isinstance(part[0], tuple) else 2
        return numbers_within(number, many, self.sizes)

    def _enter(self, part, number, scope):
        """Puts in what is to be done for a part."""
        self.waiting.append(("leave", part, number, scope))
        numbers = self._inner(part, number)
        if part[0] == "fn":
            self.bound[number] = self.kind_number(part[2])
            self.waiting.append(("enter", part[3], numbers[0], Scope(part[1], self.bound[number], None, scope)))
        elif part[0] == "let":
            self.waiting.append(("body", part, number, scope))
            self.waiting.append(("enter", part[3], numbers[0], scope))
        elif part[0] == "rec":
            self._enter_rec(part, number, scope)
        elif part[0] == "match":
            self.waiting.append(("row", (part, 0), numbers[1], scope))
            self.waiting.append(("enter", part[1], numbers[0], scope))
        else:
            inner = [("enter", one, at, scope) for one, at in zip(form_parts_in(part), numbers)]
            self.waiting.extend(inner[::-1])

    def _enter_body(self, part, number, scope):
        """Puts in what is to be done for what stands behind the `in` of a `let`, whose e1 is done."""
        within = Scope(part[1], self.done[-1], part[2], scope)
        self.waiting.append(("enter", part[4], self._inner(part, number)[1], within))

    def _enter_rec(self, part, number, scope):
        """Puts in what is to be done for a `rec`, unless its kind is not a function's."""
        if part[4][0] != "fn":
            raise BadForm(number)
        kind = self.kind_number(part[4])
        self.bound[number] = kind
        numbers = self._inner(part, number)
        within = Scope(part[1], kind, None, scope)
        given = Scope(part[2], self.rules.form(kind)[1]["from"], None, within)
        self.waiting.append(("enter", part[6], numbers[1], Scope(part[1], kind, part[3], scope)))
        self.waiting.append(("enter", part[5], numbers[0], given))

    def _enter_row(self, told, number, scope):
        """Puts in what is to be done for a row of a match and for those behind it; looks at its pattern."""
        match, index = told
        row = match[2][index]
        within = scope
        for word, kind in self._look_at_pattern(row[0], number + 1, self.done[-1 - index]):
            within = Scope(word, kind, None, within)
        if index + 1 < len(match[2]):
            self.waiting.append(("row", (match, index + 1), number + self.sizes[number], scope))
        self.waiting.append(("leave row", told, number, scope))
        self.waiting.append(("enter", row[1], self._inner(row, number)[1], within))

    def _look_at_pattern(self, pattern, number, matched):
        """The list of the words that a pattern binds with the numbers of their kinds, in order."""
        found = []
        waiting = [(pattern, matched)]
        while waiting:
            part, kind = waiting.pop()
            if part[0] == "bind":
                found.append((part[1], kind))
            kinds = []
            if part[0] == "tag":
                kinds = [self.rules.content(kind, part[1])]
            elif part[0] == "record":
                kinds = [self.rules.entry(kind, label) for label, _ in part[1]]
                if self.rules.form(kind)[0] != "record":
                    raise BadForm(number)
            if None in kinds:
                raise BadForm(number)
            inner = [(one, at) for one, at in zip(pattern_parts_in(part), kinds)]
            waiting.extend(inner[::-1])
            number += 1
        return found

    def _leave_row(self, told, number):
        """Looks whether the kind of a row's tree is that of the first row's tree."""
        if self.done[-1] != self.done[-1 - told[1]]:
            raise BadForm(number)

    def _leave(self, part, number, scope, kinds):
        """Tells the kind of a part, of which those of the parts within it are told."""
        if part[0] == "match":
            kind = kinds[1] if self._is_closed(part, kinds[0]) else None
        else:
            if number in self.bound:
                kinds = [self.bound[number], *kinds]
            kind = kind_by_rule(self.rules, part, scope, kinds)
        if kind is None or not self.rules.is_right(kind):
            raise BadForm(number)
        self.done.append(kind)

    def _is_closed(self, match, matched):
        """Whether what is matched has just the tags that its rows have where they close."""
        for way, tags, _, _ in closings(self.book, match[2]):
            head, steps, rest = self.rules.form(self.rules.behind(matched, way))
            if head != "variant" or rest is not None or tuple(sorted(steps)) != tags:
                return False
        return True


def judged(book, form):
    """The kind of the tree of a form, of which the parts are right."""
    trees = [tree for _, entries in form[1] for _, _, tree in entries] + [form[2]]
    sizes = [size for tree in trees for size in form_sizes(tree)]
    judge = FormJudge(book, sizes)
    scope = None
    number = 0
    for names, entries in form[1]:
        within = scope
        for name, kind, _ in entries:
            within = Scope(name, judge.kind_number(kind), None, within)
        for name, kind, tree in entries:
            if judge.judge_tree(tree, number, within) != judge.kind_number(kind):
                raise BadForm(number)
            number += sizes[number]
        for name, kind, _ in entries:
            scope = Scope(name, judge.kind_number(kind), names, scope)
    return judge.rules.numbers.whole[judge.judge_tree(form[2], number, scope)]
