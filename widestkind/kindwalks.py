"""Ways through kinds that may be deep, with lists of what is still to come in the place of deep recursion."""
from widestkind.powers import is_name


# The kinds without kinds within them.
LEAVES = {"num": True, "name": True}


def kinds_in(kind):
    """The kinds directly within a kind, from left to right."""
    if kind[0] == "fn":
        return [kind[1], kind[2]]
    if kind[0] in ("record", "variant"):
        return [inner for label, inner in kind[1]]
    if kind[0] == "own":
        return list(kind[2])
    return []


def folded(kind, combine):
    """What `combine` makes of a kind and of the list of what it has made of the kinds directly within it."""
    done = []
    for part in kinds_of(kind)[::-1]:
        if part[0] in LEAVES:
            done.append(combine(part, []))
        else:
            inner = [done.pop() for _ in kinds_in(part)]
            done.append(combine(part, inner))
    return done[0]


def rebuilt(kind, inner):
    """The kind with other kinds in the place of those directly within it."""
    if kind[0] == "fn":
        return ("fn", inner[0], inner[1])
    if kind[0] in ("record", "variant"):
        entries = [(entry[0], made) for entry, made in zip(kind[1], inner)]
        return (kind[0], tuple(entries), kind[2])
    if kind[0] == "own":
        return ("own", kind[1], tuple(inner))
    return kind


def uses_and_owns(kind):
    """What `uses_in` and `own_kinds_in` tell of a kind."""
    uses = []
    owns = []
    waiting = [kind]
    while waiting:
        part = waiting.pop()
        head = part[0]
        if head == "num":
            uses.extend([(factor, ("measure", ())) for factor, _ in part[1] if is_name(factor)])
        elif head == "name":
            uses.append((part[1], ("kind", ())))
        elif head == "rest":
            uses.append((part[1], part[2]))
        elif head == "fn":
            waiting.extend([part[2], part[1]])
        elif head == "own":
            owns.append((part[1], part[2]))
            waiting.extend(part[2][::-1])
        else:
            if part[2] is not None:
                waiting.append(("rest", part[2], (head, tuple([label for label, _ in part[1]]))))
            waiting.extend([inner for _, inner in part[1][::-1]])
    return uses, owns


def uses_in(kind):
    """The list of the tuples of a kind name and its use, in the order of the text of the kind.

    A use is a tuple of `"kind"`, `"record"`, `"variant"` or `"measure"`, and of the labels or tags beside a row name.
    """
    return uses_and_owns(kind)[0]


def first_uses(kinds):
    """The dict from the kind names of a list of kinds that are told together to their uses, in their order."""
    found = {}
    for kind in kinds:
        for name, use in uses_in(kind):
            found[name] = use
    return found


def kinds_of(kind):
    """A kind and all kinds within it, a kind ahead of those in it, these from left to right."""
    found = []
    waiting = [kind]
    while waiting:
        part = waiting.pop()
        found.append(part)
        if part[0] not in LEAVES:
            waiting.extend(kinds_in(part)[::-1])
    return found


def own_kinds_in(kind):
    """The list of the tuples of the name and the kinds of each own kind in a kind, in order."""
    return uses_and_owns(kind)[1]
