"""Texts, their tokens, their trees, and where the parts of trees stand in them."""
from widestkind.errors import BadText
from widestkind.parsing import parsed, read_tree_piece
from widestkind.pieces import all_pieces
from widestkind.signs import cut


def tokens(text):
    """The list of the tuples of the tokens of a text and of the indexes at which they begin."""
    found, _, wrong = cut(text)
    if wrong is not None:
        raise BadText(wrong)
    return found


def is_built(text):
    """Whether any value is a text that is built as the grammar says."""
    try:
        parsed(text, "TREE")
    except BadText:
        return False
    return True


def read(text):
    """The tree of a text."""
    return read_tree_piece(text).part


def spans(text):
    """The list of the tuples of the begin and the end of each part of the tree of a text."""
    return [(piece.begin, piece.end) for piece in all_pieces(read_tree_piece(text))]
