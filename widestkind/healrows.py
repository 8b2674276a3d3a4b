"""The rows of tokens and forms by which texts are built, as they are looked through when texts are healed.

A row is a row of symbols. A symbol is a form, a sort of tokens, or just one token. Forms in capitals stand for what
is repeated.
"""
from widestkind.grammar import takes

FORMS = ("small", "called", "product", "sum", "compared", "tree", "pattern", "row", "measure", "scale", "kinds", "kind")

ROWS = {
    "tree": ("fn word -> tree", "let word = tree in tree", "rec word word = tree in tree", "compared"),
    "compared": ("sum", "sum < sum"),
    "sum": ("product", "sum + product", "sum - product"),
    "product": ("called", "product * called", "product / called"),
    "called": ("small", "called ( tree )", "called . word"),
    "small": ("word", "number", "number [ measure ]", "( tree )", "( tree : kind )", "{ }", "{ ENTRIES }",
              "{ tree with word = tree }", "tag", "tag ( tree )", "match tree { ROWS }", "fail word", "@ plain ( )",
              "@ plain ( TREES )"),
    "row": ("pattern -> tree",),
    "pattern": ("_", "word", "tag", "tag ( pattern )", "{ }", "{ SLOTS }"),
    "measure": ("FACTORS",),
    "scale": ("SCALES",),
    "kind": ("kinds", "kinds -> kind"),
    "kinds": ("num", "num [ scale ]", "'", "plain", "plain ( kind )", "plain ( kind , kind )",
              "plain ( kind , kind , kind )", "( kind )", "{ }", "{ LABELS }", "{ LABELS | ' }", "{ | ' }", "< >",
              "< TAGS >", "< TAGS | ' >", "< | ' >"),
    "FACTORS": ("FACTOR", "FACTOR FACTORS"),
    "SCALES": ("SCALED", "SCALED SCALES"),
    "FACTOR": ("word", "word ^ power", "word ^ - power"),
    "SCALED": ("word", "word ^ power", "word ^ - power", "'", "' ^ power", "' ^ - power"),
    "ENTRIES": ("word = tree", "word = tree , ENTRIES"),
    "ROWS": ("row", "row ; ROWS"),
    "TREES": ("tree", "tree , TREES"),
    "SLOTS": ("word = pattern", "word = pattern , SLOTS"),
    "LABELS": ("word : kind", "word : kind , LABELS"),
    "TAGS": ("tag : kind", "tag : kind , TAGS"),
}

# The tokens that stand in for sorts of tokens.
STAND_INS = {"word": "x", "plain": "x", "tag": "T", "number": "1", "power": "1", "'": "'a"}


class Grammar:
    """The rows, cut into states: a state stands for what is left of a row.

    By states: `symbols`, and `behind_state`, the state with one symbol less. State 0 stands for nothing. `firsts`
    has for each form the states of its whole rows.
    """

    def __init__(self):
        self.symbols = [""]
        self.behind_state = [0]
        self.firsts = {}
        known = {(): 0}
        for form, rows in ROWS.items():
            self.firsts[form] = [self._state(tuple(row.split()), known) for row in rows]

    def _state(self, row, known):
        """The state of a row of symbols; states of shorter rows come ahead of it."""
        for length in range(1, len(row) + 1):
            left = row[len(row) - length:]
            if left not in known:
                known[left] = len(self.symbols)
                self.symbols.append(left[0])
                self.behind_state.append(known[left[1:]])
        return known[row]

    def is_form(self, state):
        """Whether the first symbol of a state is a form."""
        return self.symbols[state] in self.firsts


def fits_symbol(symbol, token):
    """Whether a token is of a sort, or is this token."""
    return takes(symbol, token, False)


def stand_in(symbol):
    """The token that may be put in for a symbol."""
    return STAND_INS.get(symbol, symbol)
