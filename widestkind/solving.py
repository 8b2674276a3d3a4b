"""Whether places fit together, and the widest kinds of all points."""
from widestkind.errors import BadPlace, NoKind
from widestkind.facts import facts_of
from widestkind.joins import Joins
from widestkind.measures import solve_measures
from widestkind.powers import add_times, measure_of
from widestkind.rings import ring_of
from widestkind.solutionjudge import is_solution_of
from widestkind.solutions import put_nodes, solution_of
from widestkind.wholes import is_place_of


def knots_at(whole, places):
    """The list of the knots whose facts are told by places: all for None."""
    if places is None:
        return list(range(whole.many()))
    for place in places:
        if not is_place_of(whole, place):
            raise BadPlace(place)
    chosen = {place: True for place in places}
    told = {None: True}
    for knot, (place, use, _) in enumerate(whole.knots()):
        told[knot] = place in chosen and told[use]
    return [knot for knot in range(whole.many()) if told[knot]]


def joined(knots, chosen):
    """The Joins of the facts of some of Knots, up to the first fact that cannot be true with those ahead of it."""
    joins = Joins()
    for knot in chosen:
        joins.tell(knot, facts_of(knots, knot))
        if joins.wrong is not None:
            return joins
    return joins


def equations_of(joins):
    """The equations of the power facts, where the measure of a leader is called by its number."""
    found = []
    for _, factors, measure in joins.powers:
        total = {factor: -number for factor, number in measure}
        for node, number in factors:
            add_times(total, {"'" + str(joins.leaders[node]): number}, 1)
        found.append(measure_of(total))
    return found


def measures_of(joins):
    """The dict from the names of leaders to their measures if all facts can be true together, or None."""
    if joins.wrong is not None or ring_of(joins) is not None:
        return None
    return solve_measures(equations_of(joins))


def settled(whole):
    """The tuple of the Joins of all facts of a whole and of the measures of their leaders, or None for these."""
    found = whole.kept("settled")
    if found is not None:
        return found
    joins = joined(whole.laid(), knots_at(whole, None))
    return whole.keep("settled", (joins, measures_of(joins)))


def settled_with_nodes(whole):
    """The same, with all nodes that a solution or a form needs.

    They are put in in one order, so that what comes of the joins is the same whatever was asked first.
    """
    joins, measures = settled(whole)
    if measures is not None and whole.kept("nodes") is None:
        put_nodes(whole, joins)
        whole.keep("nodes", True)
    return joins, measures


def fits(whole, places=None):
    """Whether places fit together, all of them for None."""
    if places is None:
        return settled(whole)[1] is not None
    return measures_of(joined(whole.laid(), knots_at(whole, places))) is not None


def kept_solution(whole):
    """The dict from all points without steps to their widest kinds, rows and measures, which is not to be changed."""
    found = whole.kept("solution")
    if found is not None:
        return found
    joins, measures = settled_with_nodes(whole)
    if measures is None:
        raise NoKind()
    return whole.keep("solution", solution_of(whole, joins, measures))


def solution(whole):
    """The dict from all points without steps to their widest kinds, rows and measures."""
    found = kept_solution(whole)
    return {key: found[key] for key in found}


def judge_solution(whole, value):
    """Whether any value is a dict like a solution for which all facts are true."""
    return is_solution_of(whole, value)
