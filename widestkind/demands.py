"""What definitions ask of others."""
from widestkind.books import first_unknown
from widestkind.fillings import common, told, told_all
from widestkind.groundkinds import kinds_at, roots_of
from widestkind.groups import grouped, reached
from widestkind.kinds import fill_all
from widestkind.kindwalks import first_uses
from widestkind.knots import Knots

LETTERS = "abcdefghijklmnopqrstuvwxyz"
FIRST = {"kind": "k", "record": "r", "variant": "v", "measure": "m"}


def is_right(book, entry, name):
    """Whether all that a definition speaks of is there in a book, or is a name."""
    if entry.source is None or any([word != name and not book.defines(word) for word in entry.free_names()]):
        return False
    if not entry.source.tells:
        return True
    return not any([part[0] == "told" and first_unknown(book, part[2]) is not None for part in entry.source.steps])


class Demands:
    """What the definitions of a state ask of a name that is there as a fault.

    `web` has for each other definition those that it uses, and `direct` True for those that use the name.
    """

    def __init__(self, state, name):
        self.now = state
        self.name = name
        self.web = {}
        self.direct = {}
        for user, entry in state.entries.items():
            if user != name:
                self.web[user] = [word for word in entry.free_names() if word in state.entries and word != name]
                if name in entry.free_names():
                    self.direct[user] = True

    def _comes_to_name(self, user):
        """Whether a definition uses the name, directly or through others."""
        return any([other in self.direct for other in reached(self.web, [user])])

    def demand(self, user):
        """The list of the kind of a definition and of those of the uses of the name in it, or None if it has no kind.

        Only definitions that lead to the name are copied for each use: all others have the kinds that they have.
        """
        sources = {}
        known = {self.name: None}
        for other in reached(self.web, [user]):
            entry = self.now.entries[other]
            if not is_right(self.now.book, entry, self.name):
                return None
            if self._comes_to_name(other):
                sources[other] = entry.source
            elif self.now.has_kind(other):
                known[other] = self.now.told[other][1]
            else:
                return None
        if user not in sources:
            return [known[user]]
        groups = grouped({one: [word for word in self.web[one] if word in sources] for one in sources})
        first = [group for group in groups if user in group][0]
        knots = Knots(self.now.book, sources, groups, first, known)
        asked = [roots_of(sources, first)[user]]
        for knot, (_, _, part) in enumerate(knots.rows):
            if part[0] == "name" and part[1] == self.name and knots.target_of(knot) is None:
                asked.append(knot)
        kinds = kinds_at(knots, asked)
        return None if kinds is None else told_all(kinds)


def lettered(number):
    """A word of four letters for a number."""
    word = ""
    for _ in range(4):
        word = LETTERS[number % 26] + word
        number = number // 26
    return word


def copies_of(kind, many):
    """So many kinds alike to a kind that have no name in common."""
    one = told(kind)
    uses = first_uses([one])
    found = []
    for number in range(many):
        table = {}
        for index, (name, use) in enumerate(uses.items()):
            new = "'" + FIRST[use[0]] + lettered(number) + str(index + 1)
            if use[0] == "kind":
                table[name] = ("name", new)
            else:
                table[name] = ((new, 1),) if use[0] == "measure" else ((), new)
        found.append(fill_all(one, table))
    return found


def is_enough(asked, kind):
    """Whether it is enough for what is asked of a name, or None, that the name has a kind."""
    if asked is None or len(asked) == 1:
        return asked is not None
    return common(asked[1:], copies_of(kind, len(asked) - 1)) is not None
