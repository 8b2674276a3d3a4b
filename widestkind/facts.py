"""What the knots of a whole tell of the kinds at points."""
from widestkind.closings import closings
from widestkind.errors import BadKnot
from widestkind.kindwalks import first_uses
from widestkind.powers import is_name
from widestkind.shapes import is_row
from widestkind.words import is_integer

ANSWER = ("variant", (("No", ("record", (), None)), ("Yes", ("record", (), None))), None)


def kind_point(knot):
    """The point of the kind of a knot's part."""
    return (knot, "kind", ())


def behind(point, step):
    """The point with one step more."""
    return (point[0], point[1], (*point[2], step))


def label_step(label):
    """The step to the entry of a label, or to the content of a tag."""
    return label if "A" <= label[0] <= "Z" else "." + label


def as_num(point, measure, names):
    """What it means that a point is as a num with a measure."""
    factors = [(point, 1)]
    for factor, number in measure:
        if is_name(factor):
            factors.append((names[factor], -number))
    rest = tuple([(factor, number) for factor, number in measure if not is_name(factor)])
    return [("head", point, "num"), ("power", tuple(factors), rest)]


def as_head(point, kind, names):
    """What it means that a point is as a kind, but for the kinds within it."""
    if kind[0] == "num":
        return as_num(point, kind[1], names)
    if kind[0] == "name":
        return [("same", point, names[kind[1]])]
    if kind[0] == "fn":
        return [("head", point, "fn")]
    if kind[0] == "own":
        return [("head", point, kind[1])]
    labels = tuple([label for label, _ in kind[1]])
    found = [("head", point, kind[0])]
    found.extend([("in", point, label) for label in labels])
    if kind[2] is None:
        found.append(("only", point, labels))
    else:
        found.append(("rest", point, labels, names[kind[2]]))
    return found


def points_within(point, kind):
    """The list of the points of the kinds directly within the kind at a point, with these kinds."""
    if kind[0] == "fn":
        return [(behind(point, "from"), kind[1]), (behind(point, "to"), kind[2])]
    if kind[0] in ("record", "variant"):
        return [(behind(point, label_step(label)), inner) for label, inner in kind[1]]
    if kind[0] == "own":
        return [(behind(point, index), inner) for index, inner in enumerate(kind[2])]
    return []


def is_as(point, kind, names):
    """The facts that a point is as a kind; `names` has the points of its names."""
    found = []
    waiting = [(point, kind)]
    while waiting:
        one, part = waiting.pop()
        found.extend(as_head(one, part, names))
        waiting.extend(points_within(one, part)[::-1])
    return found


def same_measure(one, other):
    """The fact that the nums at two points have the same measure."""
    return ("power", ((one, 1), (other, -1)), ())


def of_number(part, point, inner):
    found = [("head", point, "num")]
    if part[1] != 0 or part[2] is not None:
        found.append(("power", ((point, 1),), () if part[2] is None else part[2]))
    return found


def of_function(part, point, inner):
    bound = (point[0], "bound", ())
    return [("head", point, "fn"), ("same", behind(point, "from"), bound), ("same", behind(point, "to"), inner[0])]


def of_call(part, point, inner):
    called, given = inner
    return [("head", called, "fn"), ("same", behind(called, "from"), given), ("same", behind(called, "to"), point)]


def of_let(part, point, inner):
    return [("same", point, inner[1])]


def of_rec(part, point, inner):
    """The first knot of a copy of a `rec` has no e2."""
    itself = (point[0], "self", ())
    found = [("head", itself, "fn"), ("same", behind(itself, "from"), (point[0], "bound", ()))]
    found.append(("same", behind(itself, "to"), inner[0]))
    if len(inner) > 1:
        found.append(("same", point, inner[1]))
    return found


def of_record(part, point, inner):
    return of_record_pattern(part, point, inner) + [("only", point, tuple(sorted([entry[0] for entry in part[1]])))]


def of_record_pattern(part, point, inner):
    found = [("head", point, "record")]
    for entry, one in zip(part[1], inner):
        found.append(("in", point, entry[0]))
        found.append(("same", behind(point, "." + entry[0]), one))
    return found


def of_field(part, point, inner):
    record, label = inner[0], part[2]
    return [("head", record, "record"), ("in", record, label), ("same", behind(record, "." + label), point)]


def of_with(part, point, inner):
    record, entry = inner
    label = part[2]
    found = [("head", record, "record"), ("in", record, label), ("head", point, "record"), ("in", point, label)]
    return found + [("same", behind(point, "." + label), entry), ("but", point, record, label)]


def of_op(part, point, inner):
    one, other = inner
    if part[1] == "<":
        found = [("head", one, "num"), ("head", other, "num"), same_measure(one, other)]
        return found + is_as(point, ANSWER, {})
    found = [("head", one, "num"), ("head", other, "num"), ("head", point, "num")]
    if part[1] in ("+", "-"):
        return found + [same_measure(one, other), same_measure(one, point)]
    number = -1 if part[1] == "*" else 1
    return found + [("power", ((point, 1), (one, -1), (other, number)), ())]


def of_told(part, point, inner):
    names = {name: (point[0], name, ()) for name in first_uses([part[2]])}
    return [("same", point, inner[0])] + is_as(point, part[2], names)


OF_TREES = {
    "number": of_number,
    "fn": of_function,
    "call": of_call,
    "let": of_let,
    "rec": of_rec,
    "record": of_record,
    "field": of_field,
    "with": of_with,
    "op": of_op,
    "told": of_told,
}


def of_tag(knots, part, point, inner):
    """The facts of a tag or of a tag pattern."""
    ours = knots.book.kind_of(part[1])
    if ours is None:
        return [("head", point, "variant"), ("in", point, part[1]), ("same", behind(point, part[1]), inner[0])]
    name, words, content = ours
    names = {word: behind(point, index) for index, word in enumerate(words)}
    return [("head", point, name)] + is_as(inner[0], content, names)


def of_row(knots, knot, inner):
    """The facts of a row: what is matched is as the pattern, and the match as the tree."""
    match = knots.match_of(knot)
    matched = knots.knots_within(match)[0]
    return [("same", kind_point(matched), inner[0]), ("same", kind_point(match), inner[1])]


def of_match(knots, part, knot):
    """The closings of a match, each at the first pattern that has a tag there."""
    rows = knots.knots_within(knot)[1:]
    found = []
    for _, tags, index, number in closings(knots.book, part[2]):
        point = kind_point(rows[index] + 1 + number)
        found.extend([("head", point, "variant"), ("only", point, tags)])
    return found


def of_name(knots, point):
    """The facts of a name; one that means a definition that is not copied is as its kind."""
    target = knots.target_of(point[0])
    if target is not None:
        return [("same", point, target)]
    kind = knots.kind_used(point[0])
    if kind is None:
        return []
    return is_as(point, kind, {name: (point[0], name, ()) for name in first_uses([kind])})


def facts_of(knots, knot):
    """The list of the facts of a knot of some Knots."""
    part = knots.part_of(knot)
    head = part[0]
    point = (knot, "kind", ())
    if head == "name":
        return of_name(knots, point)
    inner = knots.points_within(knot)
    if head == "tag":
        return of_tag(knots, part, point, inner)
    if head == "record" and knots.is_in_pattern(knot):
        return of_record_pattern(part, point, inner)
    if head in OF_TREES:
        tell = OF_TREES[head]
        return tell(part, point, inner)
    if head == "match":
        return of_match(knots, part, knot)
    return of_row(knots, knot, inner) if is_row(part) else []


def is_knot_of(whole, value):
    """Whether any value is the number of a knot of a whole."""
    return is_integer(value) and 0 <= value < whole.many()


def facts(whole, knot):
    """The list of the facts of a knot, in the order in which they are told."""
    if not is_knot_of(whole, knot):
        raise BadKnot(knot)
    return facts_of(whole.laid(), knot)
