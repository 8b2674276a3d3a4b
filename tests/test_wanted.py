import os
import sys
import unittest

from widestkind.books import Book
from widestkind.errors import BadLine, BadMacro, BadName, BadPlace, BadTree, NoKind, Unknown
from widestkind.fillings import common, told, told_all
from widestkind.kinds import are_kinds, fill, kind_text, names_in, read_kind
from widestkind.names import free
from widestkind.reading import read
from widestkind.shapes import is_row, parts_in, parts_of
from widestkind.solving import fits, solution
from widestkind.trees import show
from widestkind.wanted import loose_places, may_stand, put_in, wanted
from widestkind.wholes import Whole
from widestkind.widest import widest

sys.path.insert(0, os.path.dirname(os.path.abspath(__file__)))
from plain_runs import BOOK as PLAIN, Draws  # noqa: E402

BOOK = Book("kind tree 'a = Leaf | Node({left : tree('a), here : 'a})\nmacro both(e) = {a = e, b = e(1)}\n"
            "macro hide($x, e) = let $x = 1 in e\nmacro take($x, e) = fn $x -> fn y -> {p = e, q = $x}\n"
            "macro outer(a) = fn k -> @hide(k, {p = a, q = k})\ndef add = fn x -> x + 1[m]\n"
            "def even = fn n -> odd(n)\ndef odd = fn n -> {c = even(n)}.c")

HOLE = ("fail", "hole")


def texts(whole, place, names=()):
    return [kind_text(kind) for kind in wanted(whole, place, names=names)]


def with_own_names(kind, mark):
    """A kind alike to another one, none of whose names another mark gives."""
    kinds, records, variants, measures = names_in([kind])
    table = {}
    for sort, names in [("k", kinds), ("r", records), ("v", variants), ("m", measures)]:
        for index, name in enumerate(names):
            new = "'" + mark + sort + str(index + 1)
            table[name] = {"k": ("name", new), "m": ((new, 1),)}.get(sort, ((), new))
    return fill(kind, table)


def plain_scopes(tree):
    """For each part the dict from the words bound there to whether they have one kind; None for rows and patterns."""
    found = []

    def go(part, scope):
        found.append(scope)
        if is_row(part):
            found[-1] = None
            found.extend([None for _ in parts_of(part[0])])
            go(part[1], {**scope, **{one[1]: True for one in parts_of(part[0]) if one[0] == "bind"}})
        elif part[0] == "fn":
            go(part[2], {**scope, part[1]: True})
        elif part[0] == "let":
            go(part[2], scope)
            go(part[3], {**scope, part[1]: False})
        elif part[0] == "rec":
            go(part[3], {**scope, part[1]: True, part[2]: True})
            go(part[4], {**scope, part[1]: False})
        else:
            for one in parts_in(part):
                go(one, scope)

    go(tree, {})
    return found


def functions_of(names, tree):
    for name in names[::-1]:
        tree = ("fn", name, tree)
    return tree


class PutIn(unittest.TestCase):
    def test_example(self):
        self.assertEqual(put_in(Whole(Book(""), "fn x -> x + 3[m]"), ("", 3), ("name", "x")).text, "fn x -> x + x")

    def test_in_text_definition_and_template(self):
        whole = Whole(BOOK, "@both( fn x->x ).a(add( (2[m]) ))")
        self.assertEqual(put_in(whole, ("", 7), read("fn y -> y")).text, "@both(fn x -> x).a(add(fn y -> y))")
        self.assertEqual(str(put_in(whole, ("", 6), read("add")).book), str(BOOK))
        other = put_in(whole, place=("add", 2), tree=read("@both(x)"))
        self.assertEqual(other.text, whole.text)
        lines = str(BOOK).split("\n")
        self.assertEqual(str(other.book).split("\n"), [*lines[:5], "def add = fn x -> @both(x) + 1[m]", *lines[6:]])
        other = put_in(whole, ("@both", 4), read("e + 2"))
        self.assertEqual(str(other.book).split("\n"), [lines[0], "macro both(e) = {a = e, b = e(e + 2)}", *lines[2:]])
        self.assertEqual(other.text, whole.text)
        taking = Whole(BOOK, "fn z -> @take(z, z + y)".replace("y", "1"))
        other = put_in(taking, ("@take", 4), read("e(y)"))
        self.assertEqual(str(other.book).split("\n")[3], "macro take($x, e) = fn $x -> fn y -> {p = e, q = e(y)}")
        self.assertEqual(str(put_in(taking, ("@take", 2), read("{p = e}")).book).split("\n")[3],
                         "macro take($x, e) = fn $x -> fn y -> {p = e}")

    def test_bad_places(self):
        whole = Whole(BOOK, "match add {A(x) -> x; _ -> @both(1)}")
        for place in [("", 2), ("", 3), ("", 4), ("", 6), ("", 7), ("", 8), ("", 99), ("", True), ("add", 9), ("even", 0), None, 3,
                      ["", 0], ("@hide", 0), "place", ("both", 0), ("", 0, 0)]:
            for ask in [lambda: put_in(whole, place, None), lambda: may_stand(whole, place, None),
                        lambda: wanted(whole, place, names=["w"])]:
                with self.assertRaises(BadPlace) as caught:
                    ask()
                self.assertIs(caught.exception.given, place)

    def test_bad_trees_and_what_the_new_lines_raise(self):
        whole = Whole(BOOK, "@both(add)(1)")
        for tree in [None, True, "x", ("name", "$x"), ["name", "x"], ("name", "fn"), ("fn", "x"), ("any",)]:
            for ask in [put_in, may_stand]:
                with self.assertRaises(BadTree) as caught:
                    ask(whole, ("", 0), tree)
                self.assertIs(caught.exception.given, tree)
        for place, tree, wrong, name in [
                (("@both", 4), "@hide(x, 1)", BadMacro, "hide"), (("@both", 4), "@both(1)", BadMacro, "both"),
                (("add", 2), "@gone(1)", BadMacro, "gone"), (("", 2), "@hide(1, 2)", BadMacro, "hide"),
                (("", 2), "gone", Unknown, "gone"), (("@both", 4), "gone", Unknown, "gone"), (("add", 0), "x", Unknown, "x"),
                (("", 2), "(1 : gone)", Unknown, "gone")]:
            for ask in [put_in, may_stand]:
                with self.assertRaises(wrong) as caught:
                    ask(whole, place, read(tree))
                self.assertEqual(caught.exception.name, name)
        self.assertFalse(issubclass(BadMacro, BadLine))


class Wanted(unittest.TestCase):
    def test_examples(self):
        whole = Whole(Book(""), "fn x -> x + 3[m]")
        self.assertEqual(texts(whole, ("", 3)), ["num['m1] -> num['m1]", "num['m1]"])
        self.assertEqual([may_stand(whole, ("", 3), ("number", 2, None)), may_stand(whole, ("", 2), read("T"))], [True, False])
        other = Whole(Book(""), "let f = fn x -> x in {a = f(1), b = f(T)}")
        self.assertEqual(texts(other, ("", 2)), ["{a : 'a1, b : 'a2}", "'a3", "'a1", "'a2"])
        self.assertEqual(texts(other, ("", 2), ["x"]),
                         ["{a : 'a1, b : 'a2}", "'a3 -> 'a4", "num -> 'a1", "<T : {} | 'r1> -> 'a2"])
        with self.assertRaises(BadName) as caught:
            wanted(whole, ("", 2), names=["y"])
        self.assertEqual(caught.exception.name, "y")

    def test_spots(self):
        whole = Whole(BOOK, "{a = @both(fn x -> x), b = @both(add)}")
        self.assertEqual(texts(whole, ("@both", 4)), ["{a : {a : 'a1 -> 'a1, b : 'a2}, b : {a : num[m] -> num[m], b : num[m]}}",
                                                      "'a2", "num[m]"])
        whole = Whole(BOOK, "let f = @both(fn x -> x) in {a = f.a(1), b = f}")
        self.assertEqual(texts(whole, ("", 3))[0], "{a : 'a1, b : {a : 'a2 -> 'a3, b : 'a4}}")
        self.assertEqual(len(texts(whole, ("", 3))), 1 + 6)
        self.assertEqual(len(texts(Whole(BOOK, "{a = even, b = odd}"), ("odd", 4))), 3)
        self.assertEqual(texts(Whole(BOOK, "add"), ("add", 0)), ["'a1", "'a1"])
        self.assertEqual(texts(Whole(BOOK, "add"), ("", 0)), ["'a1", "'a1"])

    def test_names_of_each_sort_of_binder(self):
        text = "fn a -> match a {A({p = b}) -> rec f c = {u = b(c), v = f(1)}.v in 3; _ -> 4}"
        whole = Whole(BOOK, text)
        number = [place[1] for place in whole.places() if whole.where(place) == "b(c)"][0]
        self.assertEqual(texts(whole, ("", number), ["c", "f", "b", "a"]),
                         ["<A : {p : 'a1 | 'r1} | 'r2> -> num", "num -> (num -> 'a2) -> 'a1 -> <A : {p : 'a1 | 'r1} | 'r2> -> 'a3"])
        self.assertEqual(texts(whole, ("", number), names=("a",))[1], "<A : {p : 'a1 | 'r1} | 'r2> -> 'a2")
        macro = Whole(BOOK, "fn z -> @take(z, z + 1[m])")
        self.assertEqual(texts(macro, ("", 3), ["z"]),
                         ["'a1 -> 'a2 -> 'a3 -> {p : 'a4, q : 'a2}", "'a2 -> 'a4"])
        self.assertEqual(texts(macro, ("@take", 4), ["y"])[1], "'a2 -> 'a3")

    def test_bad_names(self):
        whole = Whole(BOOK, "let a = 1 in rec f x = {u = x, v = f}.u in fn y -> let y = 2 in {p = f(1), q = @hide(y, y)}")
        inner = [place for place in whole.places() if whole.where(place) == "f(1)"][0]
        for names, wrong in [(["a"], "a"), (["f"], "f"), (["x"], "x"), (["y"], "y"), (["gone", "a"], "gone"), (["add"], "add")]:
            with self.assertRaises(BadName) as caught:
                wanted(whole, inner, names=names)
            self.assertEqual(caught.exception.name, wrong)
        body = [place for place in whole.places() if whole.where(place) == "{u = x, v = f}.u"][0]
        self.assertEqual(texts(whole, body, ["f", "x"])[0], "'a1 -> {p : 'a2, q : num}")
        passing = Whole(BOOK, "fn y -> fn z -> @hide(y, y)")
        place = [place for place in passing.places() if passing.where(place) == "y"][0]
        self.assertEqual(texts(passing, place, ["z"]), ["'a1 -> 'a2 -> 'a3", "'a2 -> 'a3"])
        for names, wrong in [(["y"], "y"), (["z", "y"], "y"), (["y", "gone"], "y"), (["gone", "y"], "gone")]:
            with self.assertRaises(BadName) as caught:
                wanted(passing, place, names=names)
            self.assertEqual(caught.exception.name, wrong)
        template = Whole(BOOK, "@outer(1)")
        place = [place for place in template.places() if place[0] == "@outer" and template.where(place) == "{p = a, q = k}"][0]
        for word in ["k", "a"]:
            with self.assertRaises(BadName):
                wanted(template, place, names=[word])
        self.assertEqual(texts(template, place), ["'a1 -> 'a2", "'a2"])

    def test_names_of_a_rec_in_copies_within_it(self):
        whole = Whole(BOOK, "rec g x = let w = fn y -> y in w(A) in g(1[m])")
        due = ["'a1", "('a2 -> 'a3) -> 'a2 -> 'a4", "('a2 -> 'a3) -> 'a2 -> <A : {} | 'r1> -> 'a3",
               "(num[m] -> 'a1) -> num[m] -> 'a5", "(num[m] -> 'a1) -> num[m] -> <A : {} | 'r2> -> 'a1"]
        self.assertEqual(texts(whole, ("", 2), ["g", "x"]), due)
        self.assertEqual(len(texts(whole, ("", 2), ["g"])), 5)
        inner = Whole(BOOK, "rec g x = rec h y = let w = {p = g, q = h} in w.q in h in g")
        number = [place[1] for place in inner.places() if inner.where(place) == "{p = g, q = h}"][0]
        self.assertEqual(len(texts(inner, ("", number), ["g", "h", "x", "y"])), 1 + 8)
        passed = Whole(BOOK, "rec g x = let w = @both(g(x)) in w.a in {p = g(1), q = g(A)}")
        self.assertEqual(texts(passed, ("", 3), ["x", "g"])[0], "{p : 'a1, q : 'a2}")
        ahead = Whole(BOOK, "rec g x = let w = x in w(w) in let v = g in v")
        for place, names, wrong in [(("", 4), ["g", "w"], "w"), (("", 7), ["g"], "g"), (("", 4), ["x", "w", "g"], "w"), (("", 8), ["v"], "v")]:
            with self.assertRaises(BadName) as caught:
                wanted(ahead, place, names=names)
            self.assertEqual(caught.exception.name, wrong)
        with self.assertRaises(BadName) as caught:
            wanted(Whole(BOOK, "rec g x = let w = @hide(g, x) in w in g"), ("", 4), names=["g"])
        self.assertEqual(caught.exception.name, "g")
        shadowing = Whole(Book("macro loop($x, e) = rec $x y = 1 in e"), "rec g x = let w = @loop(g, x) in w in g")
        with self.assertRaises(BadName) as caught:
            wanted(shadowing, ("", 4), names=["x", "g"])
        self.assertEqual(caught.exception.name, "g")

    def test_names_of_drawn_texts(self):
        """Without macros, a name is refused just where its innermost binder around the place gives it many kinds."""
        seen = {True: 0, False: 0}
        draws = Draws(58)
        for _ in range(80):
            inner = draws.tree(3, ["f", "x"])
            tree = ("rec", "f", "x", ("let", "w", inner, ("name", "w")), draws.tree(1, ["f"]))
            self.check_names(Whole(Book(PLAIN), show(tree)), tree, seen)
        self.assertGreater(min(seen.values()), 150)

    def check_names(self, whole, tree, seen):
        steps = parts_of(tree)
        scopes = plain_scopes(tree)
        for place in whole.places():
            if place[0] != "" or any(part[0] == "macro" for part in steps) or scopes[place[1]] is None:
                continue
            for word in ["x", "f", "g"]:
                may = scopes[place[1]].get(word, False)
                try:
                    found = wanted(whole, place, names=[word])
                    seen[True] += 1
                    self.assertTrue(may, (whole.text, place, word))
                    self.assertTrue(all(kind[0] == "fn" for kind in found[1:]))
                except BadName:
                    seen[False] += 1
                    self.assertFalse(may, (whole.text, place, word))
                except NoKind:
                    seen[True] += 1
                    self.assertTrue(may, (whole.text, place, word))

    def test_order_of_exceptions(self):
        whole = Whole(BOOK, "{a = 1(2), b = fn x -> x}")
        with self.assertRaises(NoKind):
            wanted(whole, ("", 5), names=["x"])
        with self.assertRaises(BadName):
            wanted(whole, ("", 5), names=["x", "y"])
        with self.assertRaises(BadPlace):
            wanted(whole, ("", 6), names=["y"])
        self.assertEqual(texts(whole, ("", 1)), ["{a : 'a1, b : 'a2 -> 'a2}", "'a1"])
        with self.assertRaises(NoKind):
            loose_places(whole)

    def test_without_names_as_the_solution_tells(self):
        for text in ["fn x -> {a = x + 1, b = @both(fn y -> x)}", "let f = fn x -> x.a in {p = f, q = f({a = 1})}", "even(odd(1))"]:
            whole = Whole(BOOK, text)
            for place in whole.places():
                other = put_in(whole, place, HOLE)
                told_there = solution(other)
                spots = [knot for knot, (here, _, _) in enumerate(other.knots()) if here == place]
                self.assertEqual(wanted(whole, place), told_all([told_there[(knot, "kind")] for knot in [0, *spots]]))

    def test_may_stand_as_the_kinds_tell(self):
        stood = 0
        for text in ["fn x -> {a = x + 1[m], b = x < 0}", "let f = fn x -> x in {a = f(1), b = f(T)}", "@both(fn x -> x)",
                     "fn x -> match x {A(y) -> y + 1; B -> x.q; _ -> 2}".replace("x.q", "3"), "{a = add(1[m]), b = even}"]:
            whole = Whole(BOOK, text)
            for place in whole.places():
                for names in [[], ["x"]]:
                    for tree in ["1", "x", "x + 1[m]", "T", "fn y -> y", "{a = x}", "fail w", "{}", "x(x)", "0"]:
                        stood += self.check_main_statement(whole, place, names, read(tree))
        self.assertGreater(stood, 200)

    def check_main_statement(self, whole, place, names, tree):
        if [name for name in free(tree) if name not in names]:
            return 0
        try:
            kinds = wanted(whole, place, names=names)
        except (BadPlace, BadName):
            return 0
        alone = Whole(BOOK, put_in(Whole(BOOK, "1"), ("", 0), functions_of(names, tree)).text)
        found = None
        if fits(alone):
            kind = widest(alone)
            given = [("name", "'all")] + [with_own_names(kind, "abcdefgh"[index]) for index in range(len(kinds) - 1)]
            self.assertTrue(are_kinds(given))
            found = common(kinds, given)
        self.assertEqual(may_stand(whole, place, tree), found is not None)
        if found is not None:
            self.assertEqual(told(found[0]), widest(put_in(whole, place, tree)))
        return found is not None


class Loose(unittest.TestCase):
    def test_loose_places(self):
        whole = Whole(BOOK, "let f = fn x -> x in {a = f(1), b = f(T), c = @both(fail w).a + 2}")
        expected = []
        for place in whole.places():
            if all(kind[0] == "name" for kind in wanted(whole, place)[1:]):
                expected.append(place)
        self.assertEqual(loose_places(whole), expected)
        self.assertNotIn(("", 1), expected)
        self.assertIn(("", 2), expected)
        self.assertIn(("@both", 4), expected)
        self.assertEqual(loose_places(Whole(BOOK, "match A {A -> 1; B(x) -> x}")), [("", 0), ("", 6)])
        self.assertEqual(loose_places(Whole(BOOK, "{a = T}")), [("", 0), ("", 1), ("", 2)])

    def test_a_place_with_several_spots(self):
        whole = Whole(BOOK, "let f = fn x -> x in {a = f(1) + 1, b = f(T)}")
        self.assertEqual(texts(whole, ("", 2)), ["{a : num, b : 'a1}", "'a2", "num", "'a1"])
        self.assertNotIn(("", 2), loose_places(whole))
        self.assertEqual(kind_text(read_kind("'a2")), "'a2")


if __name__ == "__main__":
    unittest.main()
