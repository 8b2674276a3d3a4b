"""Kinds as knots that are tied together: what two lists of kinds have in common."""
from widestkind.kindwalks import folded
from widestkind.measures import fill_measure, power, solve_measures, times


class Web:
    """Knots for kinds and ties for rows.

    `forms` has for each knot what is known of it: None; `("num", measure)`; `("fn", (knot, knot))`;
    `("own", name, knots)`; or `("record", entries, tie)` and `("variant", entries, tie)`, with a dict from labels to
    knots. A tie stands for further entries: `rows` has None for it, or the tuple of these entries and the next tie;
    a tie that is None stands for no further entries. Knots that have become one have a common leader.
    """

    def __init__(self):
        self.forms = []
        self.leaders = []
        self.rows = []
        self.equations = []

    def new_knot(self, form):
        """A further knot."""
        self.forms.append(form)
        self.leaders.append(len(self.leaders))
        return len(self.forms) - 1

    def new_tie(self):
        """A further tie."""
        self.rows.append(None)
        return len(self.rows) - 1

    def leader(self, knot):
        """The knot that stands for all that have become one with a knot."""
        while self.leaders[knot] != knot:
            self.leaders[knot] = self.leaders[self.leaders[knot]]
            knot = self.leaders[knot]
        return knot

    def put_kinds(self, kinds, side):
        """The list of new knots for kinds that are told together; `side` sets their measure names apart."""
        knots = {}
        ties = {}

        def knot_of(kind, inner):
            if kind[0] == "name":
                if kind[1] not in knots:
                    knots[kind[1]] = self.new_knot(None)
                return knots[kind[1]]
            if kind[0] == "num":
                return self.new_knot(("num", set_apart(kind[1], side)))
            if kind[0] == "fn":
                return self.new_knot(("fn", tuple(inner)))
            if kind[0] == "own":
                return self.new_knot(("own", kind[1], tuple(inner)))
            if kind[2] is not None and kind[2] not in ties:
                ties[kind[2]] = self.new_tie()
            labels = [entry[0] for entry in kind[1]]
            return self.new_knot((kind[0], dict(zip(labels, inner)), ties.get(kind[2])))

        return [folded(kind, knot_of) for kind in kinds]

    def whole_row(self, form):
        """All entries that are known of a record or a variant, and the last tie."""
        entries, tie = dict(form[1]), form[2]
        while tie is not None and self.rows[tie] is not None:
            more, tie = self.rows[tie]
            entries.update(more)
        return entries, tie

    def tie_together(self, one, other):
        """Lets two knots become one, and all that follows from it; returns whether that can be."""
        waiting = [(one, other)]
        while waiting:
            one, other = waiting.pop()
            one, other = self.leader(one), self.leader(other)
            if one == other:
                continue
            if self.forms[one] is None:
                one, other = other, one
            follows = self._follows(self.forms[one], self.forms[other])
            if follows is None:
                return False
            self.leaders[other] = one
            waiting.extend(follows)
        return True

    def _follows(self, one, other):
        """The pairs of knots that become one if two knots of these forms do, or None if they cannot."""
        if other is None:
            return []
        if one[0] != other[0]:
            return None
        if one[0] == "num":
            self.equations.append(times(one[1], power(other[1], -1)))
            return []
        if one[0] == "fn":
            return list(zip(one[1], other[1]))
        if one[0] == "own":
            same = one[1] == other[1] and len(one[2]) == len(other[2])
            return list(zip(one[2], other[2])) if same else None
        return self._tie_rows(one, other)

    def _tie_rows(self, one, other):
        """Lets two rows become one; returns the pairs of knots of equal labels, or None if that cannot be."""
        entries, tie = self.whole_row(one)
        others, last = self.whole_row(other)
        more = {label: knot for label, knot in entries.items() if label not in others}
        others_more = {label: knot for label, knot in others.items() if label not in entries}
        if others_more and tie is None or more and last is None:
            return None
        if tie != last:
            if tie is not None and last is not None:
                common = self.new_tie()
            else:
                common = None
            if tie is not None:
                self.rows[tie] = (others_more, common)
            if last is not None:
                self.rows[last] = (more, common)
        elif more or others_more:
            return None
        return [(knot, others[label]) for label, knot in entries.items() if label in others]

    def inner_knots(self, knot):
        """The knots directly within a knot."""
        form = self.forms[knot]
        if form is None or form[0] == "num":
            return []
        if form[0] == "fn":
            return list(form[1])
        if form[0] == "own":
            return list(form[2])
        return list(self.whole_row(form)[0].values())

    def _kind_at(self, knot, kinds, table):
        """The kind of a knot, where the kinds of the knots within it are told, and the measures of names."""
        form = self.forms[knot]
        if form is None:
            return ("name", "'3" + str(knot))
        if form[0] == "num":
            return ("num", fill_measure(form[1], table))
        if form[0] == "fn":
            return ("fn", kinds[self.leader(form[1][0])], kinds[self.leader(form[1][1])])
        if form[0] == "own":
            return ("own", form[1], tuple([kinds[self.leader(inner)] for inner in form[2]]))
        entries, tie = self.whole_row(form)
        filled = [(label, kinds[self.leader(entries[label])]) for label in sorted(entries)]
        return (form[0], tuple(filled), None if tie is None else "'4" + str(tie))

    def kinds_at(self, knots):
        """The kinds of knots, or None if there are none: a knot within itself, or measures that differ."""
        table = solve_measures(self.equations)
        if table is None:
            return None
        kinds = {}
        begun = {}
        waiting = [(knot, False) for knot in knots]
        while waiting:
            knot, ready = waiting.pop()
            knot = self.leader(knot)
            if knot in kinds:
                continue
            if ready:
                kinds[knot] = self._kind_at(knot, kinds, table)
            elif knot in begun:
                return None
            else:
                begun[knot] = True
                waiting.append((knot, True))
                waiting.extend([(inner, False) for inner in self.inner_knots(knot)])
        return [kinds[self.leader(knot)] for knot in knots]


def set_apart(measure, side):
    """The measure with the names of one side, which no name of the other side is called."""
    return fill_measure(measure, {factor: (("'" + side + factor[1:], 1),) for factor, _ in measure})
