"""What reading makes of the tokens of a text: pieces, and notes of what is wrong with words and names."""


class Piece:
    """A part, a kind, a measure or a token, with the indexes where it begins and ends in the text.

    `inner` are the pieces of the parts directly within a part. `start` is where it begins with its brackets.
    """

    def __init__(self, part, begin, end, inner=(), start=None):
        self.part = part
        self.begin = begin
        self.end = end
        self.inner = inner
        self.start = begin if start is None else start


class Notes:
    """What is noted of the words and names of a text while it is read."""

    def __init__(self):
        self.doubles = []
        self.strays = []
        self._uses = []

    def unlike(self, pieces):
        """Notes the words that stand twice among pieces of which each is to be another word."""
        seen = set()
        for piece in pieces:
            if piece.part in seen:
                self.doubles.append((piece.begin, piece.part))
            seen.add(piece.part)

    def use(self, piece, sort, labels=()):
        """Notes what a kind name stands for, and beside which labels or tags."""
        self._uses.append((piece.begin, piece.part, (sort, tuple(sorted(labels)))))

    def end_kind(self):
        """Notes the first kind name of the kind that ends here that stands for two things."""
        uses = sorted(self._uses)
        stray = first_stray([(name, use) for _, name, use in uses])
        if stray is not None:
            self.strays.append(stray)
        self._uses = []

    def first_double(self):
        """The first word, in the order of the text, that stands twice, or None."""
        if not self.doubles:
            return None
        return min(self.doubles)[1]


def first_stray(uses):
    """The first name in a list of names and uses that has another use than before, or None."""
    known = {}
    for name, use in uses:
        if known.setdefault(name, use) != use:
            return name
    return None


def all_pieces(piece):
    """A piece and all pieces within it, a piece ahead of those in it, these in their order."""
    found = []
    waiting = [piece]
    while waiting:
        first = waiting.pop()
        found.append(first)
        waiting.extend(first.inner[::-1])
    return found
