"""What may stand at the places of a whole."""
from widestkind.errors import BadName, BadTree, NoKind
from widestkind.exchanges import changed_whole, check_tree_place, tree_with
from widestkind.facts import kind_point
from widestkind.fillings import told_all
from widestkind.names import scopes_in
from widestkind.shapes import inner_numbers, parts_of
from widestkind.solving import fits, kept_solution, settled
from widestkind.trees import is_tree

HOLE = ("fail", "hole")


def whole_with(whole, place, tree):
    """The whole in which a tree stands at a place."""
    owner, number = place
    return changed_whole(whole, {owner: tree_with(whole.tree_at(owner), number, tree)})


def put_in(whole, place, tree):
    """The whole in which a tree stands at a place of the text, of a definition or of a template."""
    check_tree_place(whole, place)
    if not is_tree(tree):
        raise BadTree(tree)
    return whole_with(whole, place, tree)


def scope_at(tree, number):
    """The dict from the words that are bound around the part of a tree with a number to what binds them.

    That is a tuple of the part that binds, the number of that part, and the index of the word among those it binds.
    """
    steps = parts_of(tree)
    scope = scopes_in(steps, inner_numbers(steps))[number]
    return {word: (steps[binder], binder, index) for word, (binder, index) in scope.items()}


def is_fixed(tree, number, word):
    """Whether the innermost binder of a word around a part of a tree gives it one kind there."""
    scope = scope_at(tree, number)
    if word not in scope:
        return False
    part, binder, index = scope[word]
    if part[0] != "rec":
        return part[0] != "let"
    return index == 1 or number <= binder + len(parts_of(part[3]))


def is_fixed_at(whole, knot):
    """Whether the binder of the name of a knot gives it one kind there.

    A name that means a copy which was made for this very knot has a kind of its own.
    """
    bound, what, _ = whole.target_of(knot)
    if what == "kind":
        return whole.part_of(bound)[0] == "bind"
    return whole.use_of(bound) != knot


def asking_tree(names):
    """A tree that has any kind, as a hole has, and in which names stand."""
    entries = tuple([(name, ("name", name)) for name in names])
    return ("field", ("record", (("a", HOLE), ("b", ("record", entries)))), "a")


def spots_of(whole, place):
    """The ascending list of the knots that have a place."""
    return [knot for knot, (here, _, _) in enumerate(whole.knots()) if here == place]


def name_knots(whole, spot):
    """The list of the knots of the names in the tree that asks at a spot."""
    _, names = whole.knots_within(whole.knots_within(spot)[0])
    return whole.knots_within(names)


def asking_whole(whole, place, names):
    """The whole with a hole at a place, beside which names stand; raises BadName with the first name that may not."""
    tree = whole.tree_at(place[0])
    fixed = []
    for name in names:
        if not is_fixed(tree, place[1], name):
            break
        fixed.append(name)
    asking = whole_with(whole, place, asking_tree(fixed))
    rows = [name_knots(asking, spot) for spot in spots_of(asking, place)]
    for index, name in enumerate(fixed):
        if not all([is_fixed_at(asking, row[index]) for row in rows]):
            raise BadName(name)
    if len(fixed) < len(names):
        raise BadName(names[len(fixed)])
    return asking


def wanted(whole, place, *, names=()):
    """The kind of the text, and the kinds that are wanted at the spots of a place, behind those of names."""
    check_tree_place(whole, place)
    asking = asking_whole(whole, place, names)
    found = kept_solution(asking)
    kinds = [found[(0, "kind")]]
    for spot in spots_of(asking, place):
        kind = found[(spot, "kind")]
        for knot in name_knots(asking, spot)[::-1]:
            kind = ("fn", found[(knot, "kind")], kind)
        kinds.append(kind)
    return told_all(kinds)


def may_stand(whole, place, tree):
    """Whether a tree may stand at a place so that the text has a kind."""
    return fits(put_in(whole, place, tree))


def is_loose(whole, place):
    """Whether any kind is wanted at each spot of a place."""
    holed = whole_with(whole, place, HOLE)
    joins, measures = settled(holed)
    leaders = [joins.leader(joins.node(kind_point(spot))) for spot in spots_of(holed, place)]
    return measures is not None and all([leader not in joins.heads for leader in leaders])


def loose_places(whole):
    """The ascending list of the places at which any tree may stand that has a kind and no free names."""
    if not fits(whole):
        raise NoKind()
    return [place for place in whole.places() if whole.has_tree_at(place) and is_loose(whole, place)]
