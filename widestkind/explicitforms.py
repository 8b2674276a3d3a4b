"""The forms of wholes that have a kind: all groups that a text uses, and its tree."""
from widestkind.formmaking import FormMaker
from widestkind.formshapes import form_folded, put_within
from widestkind.kinds import fill_all
from widestkind.kindwalks import first_uses
from widestkind.measures import fill_measure
from widestkind.solving import settled_with_nodes
from widestkind.views import Naming, View
from widestkind.wholes import Whole


def maker_of(whole, known, groups, use):
    """The FormMaker of a whole that has a kind, and the View of what stands in no e1; None for one without a kind."""
    joins, measures = settled_with_nodes(whole)
    if measures is None:
        return None, None
    maker = FormMaker(whole, joins, Naming(whole, joins, known), groups)
    maker.find_homes(use)
    return maker, View(maker.naming, maker.renamed(measures, []))


def put_group(book, group, known, groups):
    """Puts the names and kinds of a group into `groups`; returns its form."""
    whole = Whole(book, group[0])
    maker, view = maker_of(whole, known, groups, 0)
    roots = {}
    first = 1
    for name in group:
        roots[name] = (first, first + len(whole.steps_of(name)))
        first = roots[name][1]
    around = tuple([(roots[name][0], "kind", ()) for name in group])
    kinds = {name: view.kind_at((roots[name][0], "kind", ())) for name in group}
    names = tuple(list(first_uses([kinds[name] for name in group])))
    groups[group[0]] = (names, kinds)
    entries = []
    for name in group:
        groups[name] = (names, kinds)
        maker.look_at(whole.steps_of(name)[0], roots[name][0], view, around)
        entries.append((name, kinds[name], maker.form_tree(roots[name][0], roots[name][1])))
    return (names, tuple(entries))


def groups_in_order(whole):
    """The list of the groups that a text uses, each behind those that it uses."""
    found = []
    placed = {}
    waiting = whole.groups_used()
    while waiting:
        ready = []
        for group in waiting:
            needed = [other for name in group for other in whole.book.uses(name)]
            if not any([other not in placed and other not in group for other in needed]):
                ready.append(group)
        for group in ready:
            found.append(group)
            for name in group:
                placed[name] = True
        waiting = [group for group in waiting if group[0] not in placed]
    return found


def form_without(whole, known):
    """A form of a whole, and the kind of its tree, in which no known names stand; None for a whole without a kind.

    All names that are taken are put into `known`.
    """
    groups = {}
    maker, view = maker_of(whole, known, groups, None)
    if maker is None:
        return None, None
    made = tuple([put_group(whole.book, group, known, groups) for group in groups_in_order(whole)])
    maker.look_at(whole.tree(), 0, view, ())
    tree = maker.form_tree(0, len(whole.steps_of("")))
    return ("form", made, tree), view.kind_at((0, "kind", ()))


def widest_form(whole, names):
    """A form of a whole, and the kind of its tree, in which some names do not stand; None for one without a kind."""
    found = whole.kept("form")
    if found is None:
        taken = {}
        form, kind = form_without(whole, taken)
        found = whole.keep("form", (form, kind, taken))
    if any([name in found[2] for name in names]):
        return form_without(whole, {name: True for name in names})
    return found[0], found[1]


def filled_thing(thing, table):
    """A kind, a row or a measure with things in the place of names."""
    if thing == () or isinstance(thing[0], tuple) and len(thing[0]) == 2 and isinstance(thing[0][1], int):
        return fill_measure(thing, table)
    if isinstance(thing[0], str):
        return fill_all(thing, table)
    row = fill_all(("record", thing[0], thing[1]), table)
    return (row[1], row[2])


def filled_tree(tree, table):
    """The form tree with kinds, rows and measures in the place of names that are not bound in it."""
    def filled_part(part, inner):
        made = put_within(part, inner)
        if isinstance(part[0], tuple):
            return made
        if part[0] == "number":
            return (*made[:3], fill_measure(made[3], table))
        if part[0] == "name" and part[2] is not None:
            return ("name", part[1], tuple([(name, filled_thing(thing, table)) for name, thing in part[2]]))
        if part[0] in ("fail", "fn"):
            return (made[0], made[1], fill_all(made[2], table), *made[3:])
        if part[0] == "rec":
            return (*made[:4], fill_all(made[4], table), *made[5:])
        if part[0] == "tag":
            return (*made[:3], fill_all(made[3], table))
        return made

    return form_folded(tree, filled_part)
