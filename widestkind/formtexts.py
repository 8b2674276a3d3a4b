"""The texts of forms."""
from widestkind.formshapes import form_folded
from widestkind.kinds import is_row, kind_text
from widestkind.measures import measure_text
from widestkind.parsing import read_form_piece
from widestkind.trees import text_of
from widestkind.words import is_tag


def scale_text(measure):
    """The text of a measure in square brackets."""
    return "[" + measure_text(measure) + "]"


def names_text(names):
    """The text of the names that a group, a `let` or a `rec` has."""
    return "[" + " ".join(names) + "]"


def thing_text(thing):
    """The text of a kind, a row or a measure that is put in the place of a name."""
    if len(thing) > 0 and isinstance(thing[0], str):
        return kind_text(thing)
    if not is_row(thing):
        return scale_text(thing)
    head = "variant" if thing[0] and is_tag(thing[0][0][0]) else "record"
    return "| " + kind_text((head, thing[0], thing[1]))


def number_words(part):
    """The words of a number, with the measure that is written, or the one that a 0 has."""
    if part[2] is not None:
        return [str(part[1]), scale_text(part[2])]
    if part[1] == 0:
        return ["0", ":", scale_text(part[3])]
    return [str(part[1])]


def table_words(table):
    """The words of what is put in the place of names, if there are any."""
    if table is None:
        return []
    return ["[" + " ; ".join([name + " = " + thing_text(thing) for name, thing in table]) + "]"]


def binder_words(part, texts):
    """The words of an `fn`, a `let` or a `rec`."""
    if part[0] == "fn":
        return [part[1], ":", kind_text(part[2]), "=", texts[0]]
    if part[0] == "let":
        return [part[1], names_text(part[2]), "=", texts[0], "in", texts[1]]
    kind = kind_text(part[4])
    return [part[1], part[2], names_text(part[3]), ":", kind, "=", texts[0], "in", texts[1]]


def words_behind(part, texts):
    """The words of a form tree behind its first one, with the texts of what is directly within it."""
    head = part[0]
    if head == "number":
        return number_words(part)
    if head == "name":
        return [part[1], *table_words(part[2])]
    if head == "fail":
        return [part[1], ":", kind_text(part[2])]
    if head in ("fn", "let", "rec"):
        return binder_words(part, texts)
    if head == "record":
        return [" , ".join([entry[0] + " = " + text for entry, text in zip(part[1], texts)])] if texts else []
    if head == "with":
        return [texts[0], part[2], "=", texts[1]]
    if head == "field":
        return [texts[0], part[2]]
    if head == "tag":
        return [part[1], texts[0], ":", kind_text(part[3])]
    if head == "match":
        return [texts[0], " ; ".join(texts[1:])]
    if head == "op":
        return [part[1], *texts]
    if head == "told":
        return [texts[0], ":", kind_text(part[2])]
    return texts


def part_text(part, texts):
    """The text of a form tree, or of a row."""
    if isinstance(part[0], tuple):
        return text_of(part[0]) + " -> " + texts[0]
    return " ".join(["(", part[0], *words_behind(part, texts), ")"])


def group_text(group):
    """The text of a group of definitions."""
    words = ["(", "group", names_text(group[0])]
    for name, kind, tree in group[1]:
        words.extend(["(", "def", name, ":", kind_text(kind), "=", form_folded(tree, part_text), ")"])
    return " ".join([*words, ")"])


def form_text(form):
    """The text of a form that the judge lets by."""
    return " ".join([*[group_text(group) for group in form[1]], form_folded(form[2], part_text)])


def read_form(text):
    """The form with a text."""
    return read_form_piece(text).part
