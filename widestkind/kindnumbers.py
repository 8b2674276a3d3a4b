"""Kinds as numbers, so that kinds that may be deep are compared by their numbers."""
from widestkind.kindwalks import LEAVES, folded


class KindNumbers:
    """Kinds as numbers, equal kinds as equal ones.

    `forms` has for each number the tuple of the first word of the kind; of the dict from steps to the numbers of the
    kinds within it; and of the measure, the row name, the name of an own kind, or the kind name. `whole` has the kinds.
    """

    def __init__(self):
        self.known = {}
        self.forms = []
        self.whole = []

    def number_of(self, kind):
        """The number of a kind."""
        if kind[0] in LEAVES:
            return self.number_with(kind, [])
        return folded(kind, self.number_with)

    def number_with(self, kind, inner):
        """The number of a kind, of which the numbers of the kinds directly in it are told."""
        key = (kind[0], *inner) if kind[0] == "fn" else (kind[0], kind[1])
        if kind[0] == "own":
            key = (kind[0], kind[1], tuple(inner))
        elif kind[0] in ("record", "variant"):
            key = (kind[0], tuple([label for label, _ in kind[1]]), tuple(inner), kind[2])
        if key not in self.known:
            self.known[key] = len(self.forms)
            self.forms.append(form_of(kind, inner))
            self.whole.append(kind)
        return self.known[key]


def form_of(kind, inner):
    """The form of a kind, of which the numbers of the kinds directly in it are told."""
    if kind[0] == "fn":
        return ("fn", {"from": inner[0], "to": inner[1]}, None)
    if kind[0] == "record":
        return ("record", {"." + entry[0]: number for entry, number in zip(kind[1], inner)}, kind[2])
    if kind[0] == "variant":
        return ("variant", {entry[0]: number for entry, number in zip(kind[1], inner)}, kind[2])
    return (kind[0], dict(enumerate(inner)), kind[1])
