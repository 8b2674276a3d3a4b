"""The kinds of groups of definitions, where those of the other definitions that they use are known."""
from widestkind.facts import kind_point
from widestkind.fillings import told
from widestkind.knots import Knots
from widestkind.powers import names_of
from widestkind.solving import joined, measures_of
from widestkind.views import Naming, View


def kinds_at(knots, asked):
    """The list of the kinds of some of the knots, told together, or None if not all facts can be true."""
    joins = joined(knots, list(range(knots.many())))
    measures = measures_of(joins)
    if measures is None:
        return None
    points = [kind_point(knot) for knot in asked]
    for point in points:
        joins.node(point)
    taken = {name: True for name in names_of(list(measures.values()))}
    view = View(Naming(knots, joins, taken), measures)
    return [view.kind_at(point) for point in points]


def roots_of(sources, names):
    """The dict from the names of sources to the knots of their trees, where they are put first, in this order."""
    found = {}
    first = 0
    for name in names:
        found[name] = first
        first += len(sources[name].steps)
    return found


def group_kinds(book, group, known):
    """The dict from the definitions of a group to their kinds, or None if they have none.

    `known` has the kinds of the others that the group uses, or None for those of which nothing is known. A copy of a
    definition has no other points in common with the rest than that of its tree, so that its kind tells all of it.
    """
    sources = {name: book.source_of(name) for name in group}
    roots = roots_of(sources, group)
    kinds = kinds_at(Knots(book, sources, [group], group, known), [roots[name] for name in group])
    if kinds is None:
        return None
    return {name: told(kind) for name, kind in zip(group, kinds)}
