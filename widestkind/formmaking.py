"""Makes the forms of what has a kind: what stands in the e1 of a `let` or a `rec` is seen with measures of its own.

The kinds that joins tell of the parts of an e1, as they stand in the text, are the widest ones beside the kinds of
the words that are bound around it; but not so their measures, as names of those may stand in both. So the measures in
an e1 are worked out anew, with those of the words around it as they are.
"""
from widestkind.formtables import table_between
from widestkind.kindwalks import first_uses
from widestkind.measures import fill_measure, solve_measures
from widestkind.names import binder_marks
from widestkind.powers import add_times, measure_of, names_of
from widestkind.shapes import is_row
from widestkind.views import View


class FormMaker:
    """Makes the form trees of a row of knots that no copies of others stand around: a text, or a group.

    By knots: `views`, the View in which a part is seen; `loose`, the names of what a `let` or a `rec` binds;
    `bound`, its kind; `tables`, what comes in the place of names where a name is used. `homes` has for all knots
    those in the row of whose uses they come. `told_groups` has for definitions the names of their groups and the dict
    from the definitions of the group to their kinds.
    """

    def __init__(self, whole, joins, naming, groups):
        self.whole = whole
        self.joins = joins
        self.naming = naming
        self.told_groups = groups
        self.views = {}
        self.loose = {}
        self.bound = {}
        self.tables = {}
        self.homes = []

    def find_homes(self, use):
        """Finds for each knot the one in the row, whose knots have this use, of which it comes; -1 for none."""
        for knot, (_, other, _) in enumerate(self.whole.knots()):
            if other == use:
                self.homes.append(knot)
            else:
                self.homes.append(-1 if other is None else self.homes[other])

    def _closed_leaders(self, around):
        """The dict of True for the leaders in the kinds of points."""
        found = {}
        waiting = [self.joins.leader(self.joins.node(point)) for point in around]
        while waiting:
            leader = waiting.pop()
            if leader not in found:
                found[leader] = True
                waiting.extend([self.joins.leader(node) for node in self.joins.steps_at(leader).values()])
        return found

    def inner_view(self, begin, end, view, around):
        """The View of the knots in a stretch, which is seen in another one, beside the kinds at some points."""
        closed = self._closed_leaders(around)
        equations = []
        fixed = []
        for fact, factors, measure in self.joins.powers:
            if not begin <= self.homes[fact[0]] < end:
                continue
            total = {factor: -number for factor, number in measure}
            for node, number in factors:
                leader = self.joins.leader(node)
                if leader in closed:
                    told = view.measure(leader)
                    fixed.append(told)
                    add_times(total, dict(told), number)
                else:
                    add_times(total, {"'" + str(leader): 1}, number)
            equations.append(measure_of(total))
        names = names_of(fixed)
        found = solve_measures(equations, fixed=names)
        return View(self.naming, {**view.measures, **self.renamed(found, names)})

    def renamed(self, measures, fixed):
        """The dict of measures with new names in the place of all but some."""
        kept = {name: True for name in fixed}
        old = [name for name in names_of(list(measures.values())) if name not in kept]
        table = {name: ((new, 1),) for name, new in zip(old, self.naming.new_names(len(old)))}
        return {key: fill_measure(measure, table) for key, measure in measures.items()}

    def loose_names(self, kind, view, around):
        """The names in a kind that stand in none of the kinds at some points."""
        taken = first_uses([view.kind_at(point) for point in around])
        return tuple([name for name in first_uses([kind]) if name not in taken])

    def look_at(self, tree, root, view, around):
        """Finds the views, names and tables of the parts of a tree whose first part is at a knot."""
        marks = binder_marks(tree)
        waiting = [(root, view, around)]
        while waiting:
            knot, view, around = waiting.pop()
            self.views[knot] = view
            part = self.whole.part_of(knot)
            if part[0] == "name":
                mark = marks[knot - root]
                self._look_at_name(knot, part[1], None if mark is None else root + mark[0])
            waiting.extend(self._inner_views(knot, part, view, around))

    def _inner_views(self, knot, part, view, around):
        """The tuples of the knots within a knot, of their views, and of the points around them."""
        inner = self.whole.knots_within(knot)
        if part[0] in ("let", "rec"):
            return self._bound_views(knot, part[0], inner, view, around)
        if part[0] == "fn":
            return [(inner[0], view, (*around, (knot, "bound", ())))]
        if is_row(part):
            bound = [(one, "kind", ()) for one in range(inner[0], inner[1]) if self.whole.part_of(one)[0] == "bind"]
            return [(inner[1], view, (*around, *bound))]
        return [(one, view, around) for one in inner]

    def _bound_views(self, knot, head, inner, view, around):
        """The same for a `let` or a `rec`, of which the kind and the names are found ahead of what is behind it."""
        within = around
        point = (inner[0], "kind", ())
        if head == "rec":
            point = (knot, "self", ())
            within = (*around, point, (knot, "bound", ()))
        seen = self.inner_view(inner[0], inner[1], view, around)
        self.bound[knot] = seen.kind_at(point)
        self.loose[knot] = self.loose_names(self.bound[knot], seen, around)
        return [(inner[1], view, around), (inner[0], seen, within)]

    def _look_at_name(self, knot, word, binder):
        """Finds the table of a name that uses a copy: of what a binder binds, or of a definition for None."""
        target = self.whole.target_of(knot)
        view = self.views[knot]
        if self.homes[target[0]] == target[0]:
            return
        if binder is not None:
            self.tables[knot] = table_between([(view.kind_at(target), self.bound[binder])], self.loose[binder])
            return
        loose, kinds = self.told_groups[word]
        pairs = [(view.kind_at((root, "kind", ())), kinds[name]) for name, root in self._roots(word, target[0], kinds)]
        self.tables[knot] = table_between(pairs, loose)

    def _roots(self, word, root, kinds):
        """The list of the definitions of a group and of their knots in a copy, of which one definition is at a root."""
        sizes = {name: len(self.whole.steps_of(name)) for name in kinds}
        first = root
        for name in sorted(kinds):
            if name < word:
                first -= sizes[name]
        found = []
        for name in sorted(kinds):
            found.append((name, first))
            first += sizes[name]
        return found

    def form_tree(self, root, end):
        """The form tree of the tree in a stretch of knots."""
        done = []
        for knot in list(range(root, end))[::-1]:
            part = self.whole.part_of(knot)
            inner = [done.pop() for _ in self.whole.knots_within(knot)]
            done.append(part if self.whole.is_in_pattern(knot) else self._form(knot, part, inner))
        return done[0]

    def _form(self, knot, part, inner):
        """The form of a part, of which the forms of those directly within it are made."""
        head = part[0]
        if is_row(part):
            return (part[0], inner[1])
        view = self.views[knot]
        if head == "number":
            return (*part, view.kind_at((knot, "kind", ()))[1])
        if head == "name":
            return (*part, self.tables.get(knot))
        if head == "fail":
            return (*part, view.kind_at((knot, "kind", ())))
        if head == "fn":
            return ("fn", part[1], view.kind_at((knot, "bound", ())), inner[0])
        if head == "let":
            return ("let", part[1], self.loose[knot], inner[0], inner[1])
        if head == "rec":
            return ("rec", part[1], part[2], self.loose[knot], self.bound[knot], inner[0], inner[1])
        if head == "tag":
            return ("tag", part[1], inner[0], view.kind_at((knot, "kind", ())))
        return with_inner(part, inner)


def with_inner(part, inner):
    """A part in which no kinds are written out, with other parts directly within it."""
    head = part[0]
    if head == "record":
        return ("record", tuple([(entry[0], one) for entry, one in zip(part[1], inner)]))
    if head == "with":
        return ("with", inner[0], part[2], inner[1])
    if head == "field":
        return ("field", inner[0], part[2])
    if head == "match":
        return ("match", inner[0], tuple(inner[1:]))
    if head == "op":
        return ("op", part[1], inner[0], inner[1])
    if head == "told":
        return ("told", inner[0], part[2])
    return ("call", inner[0], inner[1])
