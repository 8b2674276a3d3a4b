"""The names, arguments and places of what the interface lists, and how arguments and results are treated."""
import copy
import importlib
import inspect
import unittest

from widestkind.books import Book
from widestkind.formtexts import form_text
from widestkind.healing import floors
from widestkind.kinds import read_kind
from widestkind.looks import looks
from widestkind.papers import clash
from widestkind.ratios import Ratio
from widestkind.reading import read
from widestkind.refuters import mend_paper
from widestkind.shelf import Shelf
from widestkind.solving import solution
from widestkind.wholes import Whole
from widestkind.widest import explicit, widest

INTERFACE = {
    "ratios": {"Ratio": "(top, bottom=1)"},
    "measures": {
        "is_measure": "(value)", "times": "(one, other)", "power": "(measure, n)", "read_measure": "(text)",
        "fill_measure": "(measure, table)", "measure_text": "(measure)", "solve_measures": "(equations, *, fixed=())",
        "is_solution": "(equations, value, *, fixed=())", "measure_paper": "(equations, *, fixed=())",
        "is_measure_paper": "(equations, value, *, fixed=())"},
    "kinds": {
        "is_kind": "(value)", "are_kinds": "(value)", "kind_text": "(kind)", "read_kind": "(text)",
        "names_in": "(kinds)", "fill": "(kind, table)", "closed": "(kind)"},
    "fillings": {
        "told": "(kind)", "told_all": "(kinds)", "is_filling": "(kind, other)", "filling": "(kind, other)",
        "common": "(one, other)", "common_all": "(lists)"},
    "trees": {"is_tree": "(value)", "is_pattern": "(value)", "parts": "(tree)", "show": "(tree)"},
    "reading": {"tokens": "(text)", "is_built": "(text)", "read": "(text)", "spans": "(text)"},
    "names": {"binders": "(tree)", "free": "(tree)", "alike": "(one, other)", "plain_names": "(tree)"},
    "books": {"Book": "(text='')", "is_empty": "(book, kind)"},
    "expanding": {"expanded": "(book, tree, *, owner='')"},
    "wholes": {"Whole": "(book, text)"},
    "facts": {"facts": "(whole, knot)"},
    "solving": {"fits": "(whole, places=None)", "solution": "(whole)", "judge_solution": "(whole, value)"},
    "healing": {
        "healed": "(text, deeds)", "is_healing": "(text, value)", "distance": "(text)", "heal": "(text)", "healings": "(text)",
        "floors": "(text)", "are_floors": "(text, value)", "heal_right": "(book, text)"},
    "papers": {"clash": "(whole, places=None)", "judge_clash": "(whole, value)", "paper_places": "(whole, paper)"},
    "widest": {
        "widest": "(whole)", "can_have": "(whole, kind)", "explicit": "(whole)", "form_with": "(whole, kind)"},
    "forms": {
        "is_form": "(book, value)", "judge": "(book, form)", "erase": "(form)", "is_form_of": "(whole, value)"},
    "formtexts": {"form_text": "(form)", "read_form": "(text)"},
    "refuters": {
        "refuter": "(whole, places=None)", "is_refuter": "(whole, value)", "is_mend": "(whole, value)", "refuters": "(whole)",
        "mends": "(whole)", "blamed": "(whole)", "cheapest_mend": "(whole, weights=None)", "mend_paper": "(whole, weights=None)",
        "is_mend_paper": "(whole, weights, bound, value)", "failed": "(whole, lot, *, word='cut')"},
    "wanted": {
        "put_in": "(whole, place, tree)", "wanted": "(whole, place, *, names=())", "may_stand": "(whole, place, tree)",
        "loose_places": "(whole)"},
    "cases": {
        "takes": "(pattern, tree)", "is_value_tree": "(value)", "matched_kind": "(whole, knot)", "missed": "(whole, knot)",
        "leaks": "(whole)", "useless": "(whole, knot)"},
    "looks": {
        "is_looks": "(whole, knot, value)", "looks": "(whole, knot)", "cheapest_looks": "(whole, knot)", "most_looks": "(tree)"},
    "values": {"is_value": "(value)", "value_text": "(tree)", "is_data": "(tree)"},
    "runs": {"run": "(whole, budget)", "states": "(whole, budget)", "in_units": "(whole, units)"},
    "shorter": {
        "steps": "(whole)", "step": "(whole, rule, number)", "weight": "(tree)", "shortest": "(whole)", "shortening": "(whole)",
        "judge_chain": "(whole, chain, text)", "same_end": "(one, other)"},
    "shelf": {"Shelf": "(text='')"},
}

METHODS = {
    ("ratios", "Ratio"): {"over": "(self, number)", "below": "(self, number)", "written": "(self)",
                          "__add__": "(self, other)", "__sub__": "(self, other)", "__mul__": "(self, other)",
                          "__eq__": "(self, other)"},
    ("books", "Book"): {"kinds": "(self)", "macros": "(self)", "definitions": "(self)", "constructors": "(self, name)",
                        "parameters": "(self, name)", "kind_of": "(self, tag)", "template_of": "(self, name)",
                        "tree_of": "(self, name)", "uses": "(self, name)", "groups": "(self)", "__str__": "(self)",
                        "__eq__": "(self, other)"},
    ("shelf", "Shelf"): {
        "as_book": "(self)", "lines": "(self)", "names": "(self)", "put": "(self, line)", "take": "(self, sort, name)",
        "verdict": "(self, name)", "verdicts": "(self)", "looked": "(self)", "broke": "(self)", "healed": "(self)", "undo": "(self)",
        "redo": "(self)", "trial": "(self, line)", "demand": "(self, user, name)", "would_fit": "(self, name, kind)",
        "stands": "(self, names)", "lots": "(self)", "cures": "(self)"},
    ("wholes", "Whole"): {"tree": "(self)", "knots": "(self)", "places": "(self)", "where": "(self, place)"},
}

NUM = ("num", (("'a", 2), ("m", 1)))
EQUATIONS = [(("'a", 2), ("'b", 1)), (("'b", 1), ("m", 2))]
TREE = read("fn x -> match x {T(y) -> y; _ -> z}")
ROW = read_kind("{a : num['m] | 'r} -> 'x")
BOOK = Book("kind tree 'a = Leaf | Node({left : tree('a)})\nmacro both(e) = {a = e, b = e}\ndef one = 1\ndef two = one")
WHOLE = Whole(BOOK, "fn x -> @both(x + two)")
CLASHING = Whole(BOOK, "1(2)")
UNITS = Whole(BOOK, "fn x -> 1[m] + 2[m]")
CASE = Whole(BOOK, "fn x -> match x {Leaf -> 1}")

CALLS = [
    ("measures", "times", [(("m", 1),), (("s", 1),)]), ("measures", "fill_measure", [NUM[1], {"'a": (("s", 1),)}]),
    ("measures", "solve_measures", [EQUATIONS]), ("measures", "measure_paper", [[(("'a", 2), ("m", 1))]]),
    ("measures", "is_solution", [EQUATIONS, {"'a": (), "'b": ()}]), ("measures", "is_measure_paper", [EQUATIONS, [1, 2]]),
    ("kinds", "are_kinds", [[NUM, ROW]]), ("kinds", "names_in", [[NUM, ROW]]), ("kinds", "closed", [ROW]),
    ("kinds", "fill", [ROW, {"'x": NUM, "'r": ((("b", NUM),), None), "'m": ()}]), ("fillings", "told_all", [[NUM, ROW]]),
    ("fillings", "filling", [ROW, ROW]), ("fillings", "common", [[NUM, ROW], [NUM, ROW]]),
    ("fillings", "common_all", [[[NUM, ROW], [NUM, ROW], [("name", "'a"), ROW]]]), ("trees", "parts", [TREE]),
    ("reading", "tokens", ["f(x) -> 'a"]), ("reading", "spans", ["f(x + 1)"]), ("names", "binders", [TREE]),
    ("names", "free", [TREE]), ("names", "plain_names", [TREE]),
    ("books", "is_empty", [BOOK, read_kind("tree(num)")]), ("facts", "facts", [WHOLE, 0]),
    ("solving", "fits", [WHOLE, [("", 0), ("@both", 0)]]), ("solving", "solution", [WHOLE]),
    ("solving", "judge_solution", [WHOLE, solution(WHOLE)]), ("expanding", "expanded", [BOOK, read("@both(x)")]),
    ("healing", "healed", ["f(x", [(3, "put", ")")]]), ("healing", "is_healing", ["f(x", [(3, "put", ")")]]),
    ("healing", "distance", ["f(x"]), ("healing", "heal", ["f(x"]), ("healing", "healings", ["f(x"]), ("healing", "floors", ["f("]),
    ("healing", "are_floors", ["f(", floors("f(")]), ("healing", "heal_right", [BOOK, "3[m"]),
    ("papers", "clash", [CLASHING, [("", 0), ("", 1), ("", 2)]]), ("papers", "judge_clash", [CLASHING, clash(CLASHING)]),
    ("papers", "paper_places", [CLASHING, clash(CLASHING)]), ("widest", "widest", [WHOLE]), ("widest", "can_have", [WHOLE, NUM]),
    ("widest", "explicit", [WHOLE]), ("widest", "form_with", [WHOLE, widest(WHOLE)]), ("forms", "is_form", [BOOK, explicit(WHOLE)]),
    ("measures", "is_measure", [NUM[1]]), ("measures", "power", [NUM[1], -2]), ("measures", "read_measure", ["m s^2"]),
    ("measures", "measure_text", [NUM[1]]), ("kinds", "is_kind", [ROW]), ("kinds", "kind_text", [ROW]),
    ("kinds", "read_kind", ["{a : num | 'r}"]), ("fillings", "told", [ROW]), ("fillings", "is_filling", [NUM, NUM]),
    ("trees", "is_tree", [TREE]), ("trees", "is_pattern", [("bind", "x")]), ("trees", "show", [TREE]),
    ("reading", "is_built", ["f(x)"]), ("reading", "read", ["f(x)"]), ("names", "alike", [TREE, TREE]),
    ("forms", "judge", [BOOK, explicit(WHOLE)]), ("forms", "erase", [explicit(WHOLE)]), ("forms", "is_form_of", [WHOLE, explicit(WHOLE)]),
    ("formtexts", "form_text", [explicit(WHOLE)]), ("formtexts", "read_form", [form_text(explicit(WHOLE))]),
    ("refuters", "refuter", [CLASHING, [("", 1), ("", 0), ("", 1)]]), ("refuters", "is_refuter", [CLASHING, [("", 1), ("", 0)]]),
    ("refuters", "is_mend", [CLASHING, [("", 1)]]), ("refuters", "refuters", [CLASHING]), ("refuters", "mends", [CLASHING]),
    ("refuters", "blamed", [CLASHING]), ("refuters", "cheapest_mend", [CLASHING, {("", 1): 2}]),
    ("refuters", "mend_paper", [CLASHING, {("", 1): 2}]), ("refuters", "failed", [CLASHING, [("", 1)]]),
    ("refuters", "is_mend_paper", [CLASHING, None, 1, mend_paper(CLASHING)]), ("wanted", "put_in", [WHOLE, ("", 0), read("two")]),
    ("wanted", "wanted", [WHOLE, ("", 2)]), ("wanted", "may_stand", [WHOLE, ("", 2), read("1")]), ("wanted", "loose_places", [WHOLE]),
    ("cases", "takes", [("bind", "x"), read("A")]), ("cases", "is_value_tree", [read("{a = A}")]), ("cases", "matched_kind", [CASE, 1]),
    ("cases", "missed", [CASE, 1]), ("cases", "leaks", [CASE]), ("cases", "useless", [CASE, 1]),
    ("looks", "is_looks", [CASE, 1, looks(CASE, 1)]), ("looks", "looks", [CASE, 1]), ("looks", "cheapest_looks", [CASE, 1]),
    ("looks", "most_looks", [looks(CASE, 1)]), ("values", "is_value", [read("{b = 1, a = fn x -> x}")]),
    ("values", "value_text", [read("{b = 1, a = fn x -> x}")]), ("values", "is_data", [read("{b = 1}")]), ("runs", "run", [WHOLE, 9]),
    ("runs", "states", [WHOLE, 9]), ("runs", "in_units", [UNITS, {"m": Ratio(1, 2)}]), ("shorter", "steps", [UNITS]),
    ("shorter", "step", [UNITS, "op", 1]), ("shorter", "weight", [TREE]), ("shorter", "shortest", [UNITS]), ("shorter", "shortening", [UNITS]),
    ("shorter", "judge_chain", [UNITS, [("op", 1)], "fn y -> 3[m]"]), ("shorter", "same_end", [UNITS, UNITS]),
]


def as_tuples(value):
    return tuple(as_tuples(item) for item in value) if isinstance(value, list) else value


def seen(value):
    """A copy of a value, in which books and wholes are compared by all that they tell."""
    if isinstance(value, Book):
        return str(value), value.kinds(), value.macros(), value.definitions(), value.groups()
    if isinstance(value, Whole):
        return seen(value.book), value.text, value.tree(), value.knots(), value.places()
    if isinstance(value, dict):
        return {key: seen(one) for key, one in value.items()}
    if isinstance(value, (list, tuple)):
        return type(value)(seen(one) for one in value)
    return copy.deepcopy(value)


def spoil(value):
    """Changes all lists and dicts in a result."""
    if isinstance(value, (list, tuple)):
        for item in value:
            spoil(item)
    if isinstance(value, list):
        value.append("spoiled")
    if isinstance(value, dict):
        for item in value.values():
            spoil(item)
        value["spoiled"] = True


class Interface(unittest.TestCase):
    def test_names_arguments_and_places(self):
        for module, listed in INTERFACE.items():
            found = importlib.import_module("widestkind." + module)
            for name, arguments in listed.items():
                one = getattr(found, name)
                self.assertEqual(one.__module__, "widestkind." + module)
                self.assertEqual(str(inspect.signature(one)), arguments, name)
        for (module, name), methods in METHODS.items():
            body = vars(getattr(importlib.import_module("widestkind." + module), name))
            for method, arguments in methods.items():
                self.assertEqual(str(inspect.signature(body[method])), arguments, method)
        ratio = importlib.import_module("widestkind.ratios").Ratio
        for name in ["top", "bottom"]:
            self.assertIsInstance(vars(ratio)[name], property)

    def test_arguments_stay_and_results_are_new(self):
        for module, name, given in CALLS:
            function = getattr(importlib.import_module("widestkind." + module), name)
            before = seen(given)
            first = function(*given)
            self.assertEqual(seen(given), before, name)
            kept = seen(first)
            spoil(first)
            self.assertEqual(seen(function(*given)), kept, name)
            self.assertEqual(seen(function(*as_tuples(given))), kept, name)
            self.assertEqual(seen(given), before, name)
            words = list(inspect.signature(function).parameters)
            named = [(word, value) for word, value in zip(words, given)]
            self.assertEqual(seen(function(**dict(named[::-1]))), kept, name)

    def test_all_functions_are_called(self):
        called = {(module, name) for module, name, _ in CALLS}
        listed = {(module, name) for module, names in INTERFACE.items() for name in names if name[0].islower()}
        self.assertEqual(listed - called, set())

    def test_books_and_wholes_stay(self):
        def everything():
            names = BOOK.definitions()
            return [str(BOOK), BOOK.kinds(), BOOK.macros(), names, BOOK.constructors("tree"), BOOK.parameters("tree"),
                    BOOK.kind_of("Node"), BOOK.template_of("both"), [BOOK.tree_of(name) for name in names],
                    [BOOK.uses(name) for name in names], BOOK.groups(), WHOLE.text, WHOLE.tree(), WHOLE.knots(),
                    WHOLE.places(), [WHOLE.where(place) for place in WHOLE.places()], str(WHOLE.book)]

        first = everything()
        kept = copy.deepcopy(first)
        spoil(first)
        self.assertEqual(everything(), kept)
        for module, name, given in CALLS:
            getattr(importlib.import_module("widestkind." + module), name)(*given)
        self.assertEqual(everything(), kept)

    def test_equal_wholes_get_equal_answers(self):
        for module, name, given in CALLS:
            if isinstance(given[0], Whole):
                function = getattr(importlib.import_module("widestkind." + module), name)
                other = Whole(Book(str(given[0].book)), given[0].text)
                self.assertEqual(seen(function(other, *given[1:])), seen(function(*given)), name)

    def test_methods_take_names(self):
        shelf = Shelf(text=str(BOOK))
        kept = [shelf.verdict(name="one"), shelf.trial(line="def one = 2"), shelf.demand(name="one", user="two"), shelf.stands(names=("one",)),
                shelf.would_fit(kind=("num", ()), name="one")]
        self.assertEqual(kept, [shelf.verdict("one"), shelf.trial("def one = 2"), shelf.demand("two", "one"), shelf.stands(["one"]),
                                shelf.would_fit("one", ("num", ()))])
        shelf.put(line="def three = 3")
        shelf.take(name="three", sort="def")
        self.assertEqual([BOOK.constructors(name="tree"), BOOK.kind_of(tag="Leaf")[0], BOOK.uses(name="two"), WHOLE.where(place=("", 0))],
                         [["Leaf", "Node"], "tree", ["one"], WHOLE.text])
        self.assertEqual([Ratio(1).over(number=2).written(), Ratio(bottom=2, top=1).below(number=1)], ["1/2", True])

    def test_what_stands_behind_the_star_is_told_by_name(self):
        found = importlib.import_module("widestkind.measures")
        for name, given in [("solve_measures", [EQUATIONS]), ("measure_paper", [EQUATIONS]),
                            ("is_solution", [EQUATIONS, {}]), ("is_measure_paper", [EQUATIONS, []])]:
            with self.assertRaises(TypeError):
                getattr(found, name)(*given, ())
        for module, name, given in [("refuters", "failed", [CLASHING, [("", 0)], "cut"]), ("wanted", "wanted", [WHOLE, ("", 0), ()]),
                                    ("expanding", "expanded", [BOOK, TREE, ""])]:
            with self.assertRaises(TypeError):
                getattr(importlib.import_module("widestkind." + module), name)(*given)


if __name__ == "__main__":
    unittest.main()
