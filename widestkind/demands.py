"""What definitions ask of others, and which of them stand together."""
from widestkind.books import Book
from widestkind.errors import BadMacro, NoKind, Unknown
from widestkind.fillings import told, told_all
from widestkind.kinds import fill_all
from widestkind.kindwalks import first_uses
from widestkind.shelflines import lines_with
from widestkind.solving import fits, kept_solution
from widestkind.wholes import Whole

LETTERS = "abcdefghijklmnopqrstuvwxyz"
FIRST = {"kind": "k", "record": "r", "variant": "v", "measure": "m"}


def failing(lines, names):
    """The lines in which definitions are faults, in their own places or as new ones."""
    found = list(lines)
    for name in names:
        found = lines_with(found, "def " + name + " = fail w")
    return found


def whole_or_none(book, name):
    """The whole of the text that is just the name of a definition, or None if something in it stands for nothing."""
    try:
        return Whole(book, name)
    except (BadMacro, Unknown):
        return None


def uses_of(whole, name):
    """The ascending list of the knots of a whole that are uses of a definition."""
    knots = whole.knots()
    found = []
    for knot, (_, _, part) in enumerate(knots):
        if part[0] == "name" and part[1] == name:
            bound, what, _ = whole.target_of(knot)
            place, use, _ = knots[bound]
            if what == "kind" and place == (name, 0) and use == knot:
                found.append(knot)
    return found


def demanded(book, user, name):
    """The list of the kind of a definition and of those of the uses of a name in it, or None if it has no kind."""
    whole = whole_or_none(book, user)
    if whole is None:
        return None
    try:
        found = kept_solution(whole)
    except NoKind:
        return None
    return told_all([found[(knot, "kind")] for knot in [0, *uses_of(whole, name)]])


def lettered(number):
    """A word of four letters for a number."""
    word = ""
    for _ in range(4):
        word = LETTERS[number % 26] + word
        number = number // 26
    return word


def copies_of(kind, many):
    """So many kinds alike to a kind that have no name in common."""
    uses = first_uses([told(kind)])
    found = []
    for number in range(many):
        table = {}
        for index, (name, use) in enumerate(uses.items()):
            new = "'" + FIRST[use[0]] + lettered(number) + str(index + 1)
            if use[0] == "kind":
                table[name] = ("name", new)
            else:
                table[name] = ((new, 1),) if use[0] == "measure" else ((), new)
        found.append(fill_all(told(kind), table))
    return found


def stand_together(lines, there, names):
    """Whether all of some definitions have kinds where all others that are there are faults."""
    others = [name for name in there if name not in names]
    book = Book("\n".join(failing(lines, others)))
    for name in names:
        whole = whole_or_none(book, name)
        if whole is None or not fits(whole):
            return False
    return True
