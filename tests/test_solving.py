import unittest

from widestkind.books import Book
from widestkind.errors import BadPlace, NoKind
from widestkind.facts import facts
from widestkind.fillings import told_all
from widestkind.kinds import fill, kind_text, read_kind
from widestkind.kindwalks import first_uses
from widestkind.ratios import Ratio
from widestkind.solving import fits, judge_solution, solution
from widestkind.wholes import Whole

BOOK = ("kind tree 'a = Leaf | Node({left : tree('a), here : 'a})\nkind day = Sun | Rain(num[cm])\n"
        "def even = fn x -> match x < 1 {Yes -> T; No -> odd(x - 1)}\n"
        "def odd = fn x -> match x < 1 {Yes -> F; No -> even(x - 1)}\ndef twice = fn f -> fn x -> f(f(x))\n"
        "macro both(e) = {a = e, b = e}")

WIDEST = {
    "3[m]": "num[m]", "0": "num['m1]", "fn x -> x": "'a1 -> 'a1", "fail w": "'a1",
    "let f = fn x -> x in f(f)(3)": "num", "fn x -> fn y -> x * x / y": "num['m1] -> num['m2] -> num['m1^2 'm2^-1]",
    "fn r -> {r with a = r.a + 1[m]}": "{a : num[m] | 'r1} -> {a : num[m] | 'r1}",
    "fn r -> {a = {r with a = 1}, b = {r with b = T}}":
        "{a : 'a1, b : 'a2 | 'r1} -> {a : {a : num, b : 'a2 | 'r1}, b : {a : 'a1, b : <T : {} | 'r2> | 'r1}}",
    "twice": "('a1 -> 'a1) -> 'a1 -> 'a1", "even": "num -> <F : {}, T : {} | 'r1>",
    "fn t -> match t {Node({left = Leaf}) -> 1; Leaf -> 0}": "tree('a1) -> num",
    "fn x -> match x {A(B) -> 1; A(C) -> 2; D -> 3}": "<A : <B : {| 'r1}, C : {| 'r2}>, D : {| 'r3}> -> num",
    "fn x -> match x {A -> 1; y -> 2}": "<A : {| 'r1} | 'r2> -> num",
    "fn x -> (x : <A : 'b | 'q> -> num['u])": "(<A : 'a1 | 'r1> -> num['m1]) -> <A : 'a1 | 'r1> -> num['m1]",
    "rec f x = f(x) in f": "'a1 -> 'a2", "rec f x = {a = f, b = x}.b in {a = f(1[m]), b = f(T)}": "{a : num[m], b : <T : {} | 'r1>}",
    "fn x -> x < 0": "num['m1] -> <No : {}, Yes : {}>", "@both(fn x -> x)": "{a : 'a1 -> 'a1, b : 'a2 -> 'a2}",
    "Node({left = Leaf, here = Rain(3[cm])})": "tree(day)", "fn y -> let f = fn x -> y in {a = f(1), b = f(T), c = f}":
        "'a1 -> {a : 'a1, b : 'a1, c : 'a2 -> 'a1}",
    "fn r -> let s = {r with a = 1} in (s : {a : num, b : 'x | 'r})": "{a : 'a1, b : 'a2 | 'r1} -> {a : num, b : 'a2 | 'r1}",
}

WITHOUT = ["fn x -> x(x)", "3[m] + 2", "1(2)", "{}.a", "{a = 1} < 2", "fn x -> {a = x.b, b = x + 1}", "A(1) + 1",
           "match {a = 1} {{b = x} -> x}", "match A {B -> 1}", "match Sun {B -> 1; Sun -> 2}", "fn f -> {a = f(1), b = f(T)}",
           "rec f x = f in f", "rec f x = {a = f(f)} in 1", "{{a = 1} with b = 2}", "Rain(3[m])", "Node({left = Leaf})",
           "fn x -> (x * x : num[m^3])", "fn r -> match r {{a = A} -> {r with a = r}; {a = B} -> r}",
           "(fn r -> {r with a = 1})({a = T, b = 1}).c", "({a = 1, b = 2} : {a : num})", "(A : <B : {} | 'r>) + 1",
           "Leaf(1)", "fn x -> {a = (x : {a : 'a | 'r}), b = (x : {b : 'a | 'r})}.c", "(fn x -> x + 1[m] : 'a -> num[s])",
           "fn t -> match t {A(x) -> x; Leaf -> 1}", "fn x -> match x {A(B) -> 1; A(C) -> 2}(A(D))"]


def whole(text):
    return Whole(Book(BOOK), text)


class Fits(unittest.TestCase):
    def test_wholes(self):
        for text in WIDEST:
            self.assertIs(fits(whole(text)), True, text)
        for text in WITHOUT:
            self.assertIs(fits(whole(text)), False, text)

    def test_examples(self):
        half = Whole(Book(), "3[m] + 2")
        self.assertEqual([fits(half), fits(half, [("", 0), ("", 1)])], [False, True])

    def test_some_places(self):
        half = Whole(Book(), "3[m] + 2")
        self.assertTrue(fits(half, [("", 1), ("", 2)]))
        self.assertTrue(fits(half, []))
        self.assertTrue(fits(half, ()))
        self.assertFalse(fits(half, [("", 0), ("", 2), ("", 1), ("", 0), ("", 2)]))
        self.assertFalse(fits(whole=half, places=(("", 0), ("", 2), ("", 1))))
        self.assertTrue(fits(half, [("", 1), ("", 1)]))
        self.assertFalse(fits(half, None))

    def test_uses_that_are_missing(self):
        one = whole("let f = fn x -> x + 1[m] in f(T)")
        texts = {one.where(place): place for place in one.places()}
        all_places = one.places()
        self.assertFalse(fits(one, all_places))
        for text in ["f", "x", "f(T)", "fn x -> x + 1[m]", "x + 1[m]", "T"]:
            self.assertTrue(fits(one, [place for place in all_places if place != texts[text]]), text)
        for text in ["let f = fn x -> x + 1[m] in f(T)", "1[m]", "{}"]:
            self.assertFalse(fits(one, [place for place in all_places if place != texts[text]]), text)
        two = Whole(Book("def d = 1(2)\ndef e = d"), "let f = 1(2) in {}")
        self.assertFalse(fits(two))
        self.assertTrue(fits(two, [place for place in two.places() if place != ("", 1)]))
        two = Whole(Book("def d = 1(2)\ndef e = d"), "e")
        self.assertEqual(two.places(), [("", 0), ("d", 0), ("d", 1), ("d", 2), ("e", 0)])
        self.assertFalse(fits(two))
        self.assertFalse(fits(two, [("", 0), ("d", 0), ("d", 1), ("e", 0)]))
        self.assertTrue(fits(two, [("", 0), ("d", 0), ("d", 1)]))
        self.assertTrue(fits(two, [("d", 0), ("d", 1), ("e", 0), ("d", 2)]))

    def test_one_place_of_several_knots(self):
        one = Whole(Book("macro add(e) = e + 1[m]"), "{a = @add(1[m]), b = @add(1[s])}")
        self.assertTrue(fits(one, [("", 2), ("@add", 0), ("@add", 2)]))
        self.assertFalse(fits(one, [("", 4), ("@add", 0), ("@add", 2)]))
        two = whole("fn g -> let f = fn x -> g(x) in {a = f(1), b = f(T)}")
        self.assertFalse(fits(two))

    def test_rows_without_their_match(self):
        one = whole("match {a = 1} {{b = x} -> 1}")
        self.assertTrue(fits(one, [place for place in one.places() if place != ("", 3)]))
        one = whole("match D {A -> 1; B -> 2}")
        texts = {one.where(place): place for place in one.places()}
        self.assertFalse(fits(one))
        self.assertTrue(fits(one, [place for place in one.places() if place != ("", 0)]))
        self.assertFalse(fits(one, [("", 0), texts["D"], texts["A -> 1"]]))
        self.assertTrue(fits(one, [("", 0), texts["D"], texts["B -> 2"]]))

    def test_values_that_are_no_places(self):
        half = Whole(Book(), "3[m] + 2")
        for value in [("", 3), ("", True), None, 1, ["", 0], ("x", 0), (), "", Ratio(1), [("", 0)], ("", -1)]:
            with self.assertRaises(BadPlace) as caught:
                fits(half, [("", 0), ("", 0), value, None, ("", 9)])
            self.assertIs(caught.exception.given, value)


def filled(table, things):
    """A solution with things in the place of names, also in rows and measures."""
    found = {}
    for key, thing in table.items():
        if key[1] == "'u":
            found[key] = fill(("num", thing), things)[1]
        elif isinstance(thing[0], str):
            found[key] = fill(thing, things)
        else:
            head = "variant" if any(entry[0] < "a" for entry in thing[0]) or key[1] == "'q" else "record"
            row = fill((head, thing[0], thing[1]), things)
            found[key] = (row[1], row[2])
    return found


class Solutions(unittest.TestCase):
    def test_widest(self):
        for text, expected in WIDEST.items():
            one = whole(text)
            table = solution(one)
            self.assertEqual(kind_text(told_all([table[(0, "kind")]])[0]), expected, text)
            self.assertIs(judge_solution(one, table), True, text)

    def test_keys(self):
        one = whole("fn x -> rec f y = match y {A(z) -> (z : {a : num['u], b : 'x | 'r} -> <B : 'x | 'v>)} in f")
        expected = [(knot, "kind") for knot, (_, _, part) in enumerate(one.knots()) if isinstance(part[0], str)]
        expected += [(0, "bound"), (1, "bound"), (1, "self"), (10, "bound"), (10, "self")]
        expected += [(knot, name) for knot in (7, 16) for name in ("'u", "'x", "'r", "'v")]
        table = solution(one)
        self.assertEqual(sorted(table), sorted(expected))
        self.assertEqual(len(one.knots()), 18)
        self.assertTrue(judge_solution(one, table))
        row, rest = table[(7, "'r")]
        self.assertEqual([row, rest[0]], [(), "'"])
        self.assertEqual(len(table[(7, "'u")]), 1)

    def test_wholes_without_a_kind(self):
        for text in WITHOUT:
            with self.assertRaises(NoKind):
                solution(whole(text))
        self.assertIs(judge_solution(Whole(Book(), "1(2)"), {(0, "kind"): ("num", ())}), False)

    def test_filled_solutions(self):
        one = whole("fn r -> fn n -> {a = (r : {a : 'k | 'r}), b = (n * n : num['u^2]), c = (A : <A : {} | 'q>)}")
        table = solution(one)
        names = {use: name for name, use in first_uses([table[(0, "kind")]]).items()}
        measure = table[(6, "'u")][0][0] if (6, "'u") in table else [v for k, v in table.items() if k[1] == "'u"][0][0][0]
        record = [value for key, value in table.items() if key[1] == "'r"][0][1]
        tags = [value for key, value in table.items() if key[1] == "'q"][0][1]
        self.assertEqual(len(names), 4)
        for things in [{measure: (("m", 1), ("s", 2))}, {measure: ()}, {record: ((), None)}, {tags: ((), None)},
                       {record: ((("b", read_kind("num['zz]")), ("c", read_kind("own(none)"))), "'rr")},
                       {tags: ((("B", read_kind("{}")),), "'vv"), measure: (("'w", 3),)}]:
            other = filled(table, things)
            self.assertTrue(judge_solution(one, other), things)
            self.assertNotEqual(other, table)

    def test_near_solutions(self):
        one = whole("fn x -> let f = fn y -> (y : 'a) in {a = f(x), b = f(3[m]), c = Leaf, d = {x with a = 1}}")
        table = solution(one)
        self.assertTrue(judge_solution(one, table))
        for key in list(table):
            for thing in [read_kind("num[s]"), read_kind("{z : num}"), read_kind("tree(tree(num))"), None, (), ((), None),
                          [], "num", 1, list(table[key]), ("num",), ("num", ())]:
                other = dict(table)
                other[key] = thing
                if thing != table[key]:
                    self.assertIs(judge_solution(one, other), False, (key, thing))
            other = dict(table)
            del other[key]
            self.assertIs(judge_solution(one, other), False)
        self.assertIs(judge_solution(one, {**table, (99, "kind"): ("num", ())}), False)
        self.assertIs(judge_solution(one, {**table, "more": 1}), False)
        for value in [None, True, 1, "", [], (), list(table.items()), {}, Ratio(1)]:
            self.assertIs(judge_solution(whole=one, value=value), False)

    def test_things_that_are_nearly_right(self):
        one = Whole(Book(), "(0 : num['u])")
        self.assertTrue(judge_solution(one, {(0, "kind"): ("num", ()), (0, "'u"): (), (1, "kind"): ("num", ())}))
        self.assertFalse(judge_solution(one, {(0, "kind"): ("num", ()), (0, "'u"): [], (1, "kind"): ("num", ())}))
        self.assertFalse(judge_solution(one, {(0, "kind"): ["num", ()], (0, "'u"): (), (1, "kind"): ("num", ())}))
        self.assertFalse(judge_solution(one, {(0, "kind"): ("num", ()), (0, "'u"): (("m", 1),), (1, "kind"): ("num", ())}))
        self.assertFalse(judge_solution(one, {(False, "kind"): ("num", ()), (0, "'u"): (), (1, "kind"): ("num", ())}))
        self.assertFalse(judge_solution(one, {(0, "kind"): ("num", ()), (0, "'u"): (), (True, "kind"): ("num", ())}))
        two = Whole(Book(), "(A : <A : {} | 'q>)")
        kind = read_kind("<A : {}, B : num | 'r>")
        good = {(0, "kind"): kind, (1, "kind"): kind, (2, "kind"): read_kind("{}"), (0, "'q"): ((("B", ("num", ())),), "'r")}
        self.assertTrue(judge_solution(two, good))
        for row in [((("B", ("num", ())),), None), ((("b", ("num", ())),), "'r"), ((("A", ("num", ())), ("B", ("num", ()))), "'r"),
                    ((("B", ("num", (("m", 1),))),), "'r"), ((), "'r"), [(("B", ("num", ())),), "'r"], ([("B", ("num", ()))], "'r")]:
            self.assertFalse(judge_solution(two, {**good, (0, "'q"): row}), row)
        wide = read_kind("<A : {}, B : num, C : num | 'r>")
        self.assertFalse(judge_solution(two, {**good, (0, "kind"): wide, (1, "kind"): wide}))

    def test_things_that_cannot_be_told_together(self):
        one = Whole(Book(), "{a = fail w, b = fail v}")
        def table(left, right):
            return {(0, "kind"): ("record", (("a", left), ("b", right)), None), (1, "kind"): left, (2, "kind"): right}
        self.assertTrue(judge_solution(one, table(read_kind("'a"), read_kind("num['b]"))))
        self.assertFalse(judge_solution(one, table(read_kind("'a"), read_kind("num['a]"))))
        self.assertTrue(judge_solution(one, table(read_kind("{a : num | 'r}"), read_kind("{a : 'r1 | 'r}"))))
        self.assertFalse(judge_solution(one, table(read_kind("{a : num | 'r}"), read_kind("{b : num | 'r}"))))
        self.assertFalse(judge_solution(one, table(read_kind("{a : num | 'r}"), read_kind("<A : num | 'r>"))))
        told = Whole(Book(), "{a = (fail w : {a : num | 'r}), b = fail v}")
        for other, fine in [("{a : {} | 'q}", True), ("{b : {} | 'q}", False), ("{| 'q}", False), ("'q", False)]:
            left = read_kind("{a : num | 'q}")
            found = {**table(left, read_kind(other)), (2, "kind"): left, (3, "kind"): read_kind(other), (1, "'r"): ((), "'q")}
            found[(1, "kind")] = left
            self.assertIs(judge_solution(told, found), fine, other)

    def test_own_kinds(self):
        one = Whole(Book("kind t 'a = A('a)"), "fn x -> A(x)")
        def table(kind, name="t", many=1):
            own = ("own", name, (kind,) * many)
            return {(0, "kind"): ("fn", kind, own), (0, "bound"): kind, (1, "kind"): own, (2, "kind"): kind}
        self.assertTrue(judge_solution(one, table(read_kind("none(t)"))))
        self.assertFalse(judge_solution(one, table(read_kind("num"), "u")))
        self.assertFalse(judge_solution(one, table(read_kind("num"), "t", 2)))
        self.assertFalse(judge_solution(one, table(read_kind("num"), "t", 0)))

    def test_large_wholes(self):
        one = Whole(Book(), "let a = fn x -> {a = x, b = x} in let b = fn x -> a(a(x)) in let c = fn x -> b(b(x)) in c(c(1))")
        self.assertEqual(len(one.knots()), 128)
        table = solution(one)
        self.assertEqual(kind_text(table[(0, "kind")]).count("num"), 256)
        self.assertTrue(judge_solution(one, table))
        deep = Whole(Book("def d = fn x -> {a = {a = {a = {a = {a = {a = {a = {a = x}}}}}}}}\ndef e = fn x -> d(d(d(d(x))))"),
                     "e(e(e(e(1))))")
        table = solution(deep)
        self.assertEqual(kind_text(table[(0, "kind")]).count("a"), 128)
        self.assertTrue(judge_solution(deep, table))
        self.assertFalse(judge_solution(deep, {**table, (0, "kind"): ("num", ())}))

    def test_new_results(self):
        one = whole("fn x -> x")
        first = solution(one)
        first[(0, "kind")] = None
        first["more"] = 1
        self.assertTrue(judge_solution(one, solution(one)))
        self.assertEqual(facts(one, 0), facts(one, 0))


if __name__ == "__main__":
    unittest.main()
