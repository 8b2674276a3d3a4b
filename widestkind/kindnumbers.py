"""Kinds as numbers, so that kinds that may be deep are compared by their numbers."""
from widestkind.kindwalks import folded


class KindNumbers:
    """Kinds as numbers, equal kinds as equal ones.

    `forms` has for each number the tuple of the first word of the kind; of the dict from steps to the numbers of the
    kinds within it; and of the measure, the row name, the name of an own kind, or the kind name. `whole` has the kinds.
    """

    def __init__(self):
        self.known = {}
        self.forms = []
        self.whole = []

    def number_of(self, kind):
        """The number of a kind."""
        return folded(kind, self.number_with)

    def number_with(self, kind, inner):
        """The number of a kind, of which the numbers of the kinds directly in it are told."""
        steps = list(range(len(inner)))
        rest = kind[1]
        if kind[0] == "fn":
            steps, rest = ["from", "to"], None
        elif kind[0] == "record":
            steps, rest = ["." + label for label, _ in kind[1]], kind[2]
        elif kind[0] == "variant":
            steps, rest = [label for label, _ in kind[1]], kind[2]
        key = (kind[0], tuple(steps), tuple(inner), rest)
        if key not in self.known:
            self.known[key] = len(self.forms)
            self.forms.append((kind[0], dict(zip(steps, inner)), rest))
            self.whole.append(kind)
        return self.known[key]
