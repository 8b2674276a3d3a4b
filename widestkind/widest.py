"""The widest kinds of wholes, and their forms."""
from widestkind.errors import BadKind, NoKind
from widestkind.explicitforms import filled_tree, widest_form
from widestkind.fillings import filling, is_filling, told
from widestkind.formchecks import is_book_kind
from widestkind.kindwalks import first_uses
from widestkind.solving import kept_solution


def widest(whole):
    """The widest kind of a text."""
    found = whole.kept("widest")
    if found is None:
        found = whole.keep("widest", told(kept_solution(whole)[(0, "kind")]))
    return found


def can_have(whole, kind):
    """Whether a text can have a kind."""
    if not is_book_kind(whole.book, kind):
        raise BadKind(kind)
    try:
        found = widest(whole)
    except NoKind:
        return False
    return is_filling(kind, found)


def explicit(whole):
    """A form of a whole whose kind is alike to the widest one."""
    form, _ = widest_form(whole, [])
    if form is None:
        raise NoKind()
    return form


def form_with(whole, kind):
    """A form of a whole with just this kind, or None if the text cannot have it."""
    if not is_book_kind(whole.book, kind):
        raise BadKind(kind)
    form, found = widest_form(whole, list(first_uses([kind])))
    if form is None:
        return None
    table = filling(kind, found)
    if table is None:
        return None
    return (form[0], form[1], filled_tree(form[2], table))
