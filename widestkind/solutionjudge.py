"""Whether any value tells kinds for all points of a whole for which all facts are true."""
from widestkind.facts import facts_of
from widestkind.kindnumbers import KindNumbers
from widestkind.kinds import is_built_kind, row_kinds
from widestkind.kindwalks import uses_in
from widestkind.measures import is_measure
from widestkind.pieces import first_stray
from widestkind.powers import add_times, measure_of
from widestkind.solutions import keys_of
from widestkind.words import is_integer, is_kind_name


def are_right_keys(value, keys):
    """Whether any value is a dict with just some keys; numbers in them are integers."""
    if not isinstance(value, dict) or len(value) != len(keys):
        return False
    for key in value:
        if not isinstance(key, tuple) or len(key) != 2 or not is_integer(key[0]) or key not in keys:
            return False
    return True


def row_uses(value, use):
    """The uses of the names in any value if it is a row that may stand for a row name with a use, or None."""
    head, labels = use
    if not isinstance(value, tuple) or len(value) != 2 or not (value[1] is None or is_kind_name(value[1])):
        return None
    inner = row_kinds(head, value[0])
    if inner is None or not all([is_built_kind(kind) for kind in inner]):
        return None
    found = [label for label, _ in value[0]]
    if any([label in labels for label in found]):
        return None
    uses = [one for kind in inner for one in uses_in(kind)]
    if value[1] is not None:
        uses.append((value[1], (head, tuple(sorted(found + list(labels))))))
    return uses


def thing_uses(value, use):
    """The list of the uses of the names in any value if it is a thing of the sort of a use, or None."""
    if use[0] == "kind":
        return uses_in(value) if is_built_kind(value) else None
    if use[0] != "measure":
        return row_uses(value, use)
    if not is_measure(value):
        return None
    return [(factor, ("measure", ())) for factor, _ in value if factor[0] == "'"]


def are_told_together(value, keys):
    """Whether the things of a dict are of the sorts of its keys and can be told together."""
    uses = []
    for key, use in keys.items():
        found = thing_uses(value[key], use)
        if found is None:
            return False
        uses.extend(found)
    return first_stray(uses) is None


class Judge:
    """What a dict tells of points, and whether facts are true of it."""

    def __init__(self, whole, value, keys):
        self.arities = {name: len(whole.book.parameters(name)) for name in whole.book.kinds()}
        self.numbered = KindNumbers()
        self.numbers = {}
        self.measures = {}
        self.rows = {}
        for key, use in keys.items():
            if use[0] == "kind":
                self.numbers[key] = self.numbered.number_of(value[key])
            elif use[0] == "measure":
                self.measures[key] = value[key]
            else:
                self.rows[key] = self.numbered.number_of((use[0], value[key][0], value[key][1]))

    def form(self, point):
        """The form of the kind at a point, or None if its way leads nowhere."""
        number = self.number_at(point)
        return None if number is None else self.numbered.forms[number]

    def number_at(self, point):
        """The number of the kind at a point, or None if its way leads nowhere."""
        number = self.numbers.get((point[0], point[1]))
        for step in point[2]:
            if number is not None:
                number = self.numbered.forms[number][1].get(step)
        return number

    def is_true(self, fact):
        """Whether a fact is true."""
        if fact[0] == "same":
            one = self.number_at(fact[1])
            return one is not None and one == self.number_at(fact[2])
        if fact[0] == "power":
            return self._is_power(fact[1], fact[2])
        form = self.form(fact[1])
        if form is None:
            return False
        if fact[0] == "head":
            return self._has_head(form, fact[2])
        if fact[0] == "in":
            return is_row_form(form) and fact[2] in labels_of(form)
        if fact[0] == "only":
            return is_row_form(form) and form[2] is None and all([label in fact[2] for label in labels_of(form)])
        if fact[0] == "but":
            other = self.form(fact[2])
            if other is None or form[0] != "record" or other[0] != "record":
                return False
            return row_without(form, (fact[3],)) == row_without(other, (fact[3],))
        other = self.numbered.forms[self.rows[(fact[3][0], fact[3][1])]]
        return form[0] == other[0] and row_without(form, fact[2]) == row_without(other, ())

    def _has_head(self, form, head):
        """Whether a form has a head; an own kind must have as many kinds as it has parameters."""
        if head in self.arities:
            return form[0] == "own" and form[2] == head and len(form[1]) == self.arities[head]
        return form[0] == head

    def _is_power(self, factors, measure):
        """Whether the product of the measures at points is a measure."""
        total = {}
        for point, number in factors:
            told = self.measures.get((point[0], point[1]))
            if told is None:
                form = self.form(point)
                if form is None or form[0] != "num":
                    return False
                told = form[2]
            add_times(total, dict(told), number)
        return measure_of(total) == measure


def is_row_form(form):
    """Whether a form is one of a record or a variant."""
    return form[0] in ("record", "variant")


def labels_of(form):
    """The list of the labels or tags of a form."""
    return [step[1:] if step[0] == "." else step for step in form[1]]


def row_without(form, labels):
    """The dict of the entries of a form, but for some labels, and its row name."""
    left = {label: number for label, number in zip(labels_of(form), form[1].values()) if label not in labels}
    return left, form[2]


def is_solution_of(whole, value):
    """Whether any value is a dict like a solution of a whole for which all facts are true."""
    keys = keys_of(whole)
    if not are_right_keys(value, keys) or not are_told_together(value, keys):
        return False
    judge = Judge(whole, value, keys)
    for knot in range(whole.many()):
        for fact in facts_of(whole.laid(), knot):
            if not judge.is_true(fact):
                return False
    return True
