"""The kinds of all points of a whole, as they come of the facts."""
from widestkind.kindwalks import first_uses
from widestkind.powers import names_of
from widestkind.shapes import is_row
from widestkind.views import Naming, View


def keys_of(whole):
    """The dict from the keys of a solution to the uses of what they stand for: `("kind", ())`, or as for names.

    It is kept with the whole, and is not to be changed.
    """
    found = whole.kept("keys")
    if found is not None:
        return found
    found = {}
    for knot, (_, _, part) in enumerate(whole.knots()):
        if is_row(part):
            continue
        head = part[0]
        found[(knot, "kind")] = ("kind", ())
        if head in ("fn", "rec"):
            found[(knot, "bound")] = ("kind", ())
        if head == "rec":
            found[(knot, "self")] = ("kind", ())
        if head == "told":
            for name, use in first_uses([part[2]]).items():
                found[(knot, name)] = use
    return whole.keep("keys", found)


def put_nodes(whole, joins):
    """Puts in the nodes of all keys of a solution."""
    for key in keys_of(whole):
        joins.node((key[0], key[1], ()))


def solution_of(whole, joins, measures):
    """The dict from all points without steps to their kinds, rows and measures."""
    known = {name: True for name in names_of(list(measures.values()))}
    view = View(Naming(whole, joins, known), measures)
    found = {}
    for key, use in keys_of(whole).items():
        leader = joins.leaders[joins.nodes[(key[0], key[1], ())]]
        found[key] = view.measure(leader) if use[0] == "measure" else view.kind(leader)
    return found
