"""The kinds of all points of a whole, as they come of the facts."""
from widestkind.kindwalks import first_uses
from widestkind.powers import names_of
from widestkind.shapes import is_row
from widestkind.views import Naming, View


def keys_of(whole):
    """The dict from the keys of a solution to the uses of what they stand for: `("kind", ())`, or as for names."""
    found = {}
    for knot, (_, _, part) in enumerate(whole.knots()):
        if is_row(part):
            continue
        found[(knot, "kind")] = ("kind", ())
        if part[0] in ("fn", "rec"):
            found[(knot, "bound")] = ("kind", ())
        if part[0] == "rec":
            found[(knot, "self")] = ("kind", ())
        if part[0] == "told":
            for name, use in first_uses([part[2]]).items():
                found[(knot, name)] = use
    return found


def put_nodes(whole, joins):
    """The dict from the keys of a solution to their nodes; all of them are there behind this."""
    return {key: joins.node((key[0], key[1], ())) for key in keys_of(whole)}


def solution_of(whole, joins, measures):
    """The dict from all points without steps to their kinds, rows and measures."""
    nodes = put_nodes(whole, joins)
    known = {name: True for name in names_of(list(measures.values()))}
    view = View(Naming(whole, joins, known), measures)
    found = {}
    for key, use in keys_of(whole).items():
        leader = joins.leader(nodes[key])
        found[key] = view.measure(leader) if use[0] == "measure" else view.kind(leader)
    return found
