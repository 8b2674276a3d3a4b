"""Reads texts by the rows of the grammar, with a list of what is still to come in the place of deep recursion."""
from widestkind.errors import BadName, BadText, Twice
from widestkind.formgrammar import form_row_of
from widestkind.formpieces import form_piece
from widestkind.grammar import KEPT, row_of, sort_of, takes
from widestkind.kindpieces import kind_piece
from widestkind.pieces import Notes, Piece
from widestkind.signs import cut
from widestkind.treepieces import tree_piece

# How many pieces are taken for a part that is known to go on only behind its first pieces.
TAKEN = {"!op": 3, "!call": 2, "!field": 2, "?fn": 2, "~kind": 1, "~measure": 1, "~row": 1}


class Reader:
    """Goes through the tokens of a text, or of the line of a macro, and keeps the pieces that are made of them."""

    def __init__(self, text, template):
        self.template = template
        self.tokens, wrong = cut(text)
        if wrong is None:
            self.tokens.append(("", len(text)))
        else:
            self.tokens.append(("?", wrong))
        self.at = 0
        self.end = 0
        self.pieces = []
        self.marks = []
        self.notes = Notes()

    def step(self, symbol):
        """Does what a symbol of the grammar says; returns the symbols that come in its place."""
        if symbol == "#":
            self.marks.append((len(self.pieces), self.tokens[self.at][1]))
        elif symbol[0] in ("!", "?", "~"):
            self._make(symbol)
        elif "A" <= symbol[0] <= "Z":
            return self._row(symbol)
        else:
            self._take(symbol)
        return []

    def _row(self, form):
        """The row with which a form goes on at the next token."""
        token, begin = self.tokens[self.at]
        sort = sort_of(token)
        if form == "FIELDS" and sort == "word" and self.tokens[self.at + 1][0] == "=":
            sort = "label"
        if form in ("FIRST", "BODY") or token == "0" and form == "COUNT":
            sort = token
        row = row_of(form, sort)
        if row is None:
            row = form_row_of(form, sort)
        if row is None:
            raise BadText(begin)
        return row

    def _take(self, symbol):
        """Goes behind the next token, which a symbol must take."""
        token, begin = self.tokens[self.at]
        if not takes(symbol, token, self.template):
            raise BadText(begin)
        self.at += 1
        self.end = begin + len(token)
        if symbol in KEPT:
            self.pieces.append(Piece(token, begin, self.end))

    def _make(self, symbol):
        """Puts a new piece in the place of those in it."""
        if symbol in TAKEN:
            first = len(self.pieces) - TAKEN[symbol]
            begin = self.pieces[first].start
        else:
            first, begin = self.marks.pop()
        items = self.pieces[first:]
        del self.pieces[first:]
        make = kind_piece
        if symbol[0] != "?":
            make = tree_piece if symbol[0] == "!" else form_piece
        self.pieces.append(make(symbol[1:], items, begin, self.end, self.notes))

    def finish(self):
        """Raises what is wrong with the words and names of the text."""
        double = self.notes.first_double()
        if double is not None:
            raise Twice(double)
        if self.notes.strays:
            raise BadName(self.notes.strays[0])


def parsed(text, form, template=False):
    """The Reader that has read a text of a form."""
    if not isinstance(text, str):
        raise BadText(0)
    reader = Reader(text, template)
    waiting = [form]
    while waiting:
        symbols = reader.step(waiting.pop())
        waiting.extend(symbols[::-1])
    token, begin = reader.tokens[reader.at]
    if token != "":
        raise BadText(begin)
    return reader


def read_tree_piece(text):
    """The piece of the tree of a text, whose words and names are right."""
    reader = parsed(text, "TREE")
    reader.finish()
    return reader.pieces[0]


def read_form_piece(text):
    """The piece of the form of a text, whose words and names are right."""
    reader = parsed(text, "FORM")
    reader.finish()
    return reader.pieces[0]


def read_kind_piece(text):
    """The piece of the kind of a text, whose words and names are right."""
    reader = parsed(text, "KIND")
    reader.notes.end_kind()
    reader.finish()
    return reader.pieces[0]
