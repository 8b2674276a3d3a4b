"""Forms: texts in which all kinds are written out, and the judge that goes through them."""
from widestkind.errors import BadForm, BadMacro
from widestkind.formchecks import is_form_in
from widestkind.formjudge import judged
from widestkind.formshapes import bare_tree
from widestkind.trees import text_of


def is_form(book, value):
    """Whether any value is a form."""
    return is_form_in(book, value)


def judge(book, form):
    """The kind of the tree of a form all of whose parts keep the rules."""
    if not is_form_in(book, form):
        raise BadForm(None)
    return judged(book, form)


def erase(form):
    """The tuple of the tree that is left without kinds, and of the dict from definitions to what is left of theirs."""
    found = {}
    for _, entries in form[1]:
        for name, _, tree in entries:
            found[name] = bare_tree(tree)
    return bare_tree(form[2]), found


def definition_text(book, name):
    """The text of the expansion of a definition, or None if there is none."""
    if name not in book.definitions():
        return None
    try:
        return text_of(book.expansion_of(name)[0])
    except BadMacro:
        return None


def is_form_of(whole, value):
    """Whether any value is a form of a whole."""
    if not is_form_in(whole.book, value):
        return False
    tree, trees = erase(value)
    if text_of(tree) != text_of(whole.tree()):
        return False
    for name, other in trees.items():
        if text_of(other) != definition_text(whole.book, name):
            return False
    try:
        judged(whole.book, value)
    except BadForm:
        return False
    return True
