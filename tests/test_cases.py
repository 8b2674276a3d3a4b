import itertools
import unittest

from widestkind.books import Book
from widestkind.cases import is_value_tree, leaks, matched_kind, missed, takes, useless
from widestkind.errors import BadKnot, NoKind
from widestkind.fillings import common
from widestkind.kinds import fill, kind_text
from widestkind.ratios import Ratio
from widestkind.reading import read
from widestkind.trees import parts, show
from widestkind.wholes import Whole
from widestkind.widest import widest

BOOK = Book("kind tree 'a = Leaf | Node({left : tree('a), here : 'a, right : tree('a)})\nkind loop = Round(loop)\n"
            "kind day = Sun | Rain({cm : num[cm]}) | Snow(loop)\nkind opt 'a = None | Some('a)\n"
            "kind pair 'a 'b = Pair({a : 'a, b : 'b})\nkind odd 'a = Wide(tree(odd('a))) | Deep(<P : 'a, Q : loop>)\n"
            "macro case(x) = match x {A -> 1; B -> 2}")

MATCHES = [
    "Leaf -> 1", "Leaf -> 1; Node({left = Leaf, here = x}) -> 2", "Node({left = Leaf}) -> 1; Leaf -> 2; Node({right = Leaf}) -> 3",
    "A -> 1; B -> 2", "A -> 1; B -> 2; _ -> 3; C -> 4", "_ -> 1; A -> 2", "A(Leaf) -> 1; A(x) -> 2; A(Node(x)) -> 3; B -> 4",
    "{a = A, b = A} -> 1; {a = B} -> 2; {b = B} -> 3", "{a = A} -> 1; {b = B} -> 2", "{} -> 1; {a = Sun} -> 2", "x -> 1",
    "Sun -> 1; Rain({cm = x}) -> 2", "Sun -> 1; Snow(x) -> 2; Rain(y) -> 3; Sun -> 4", "Round(x) -> 1", "Round(Round(x)) -> 1; y -> 2",
    "Some(None) -> 1; None -> 2", "Some(Some(A)) -> 1; Some(Some(B)) -> 2; Some(None) -> 3; None -> 4; _ -> 5",
    "Pair({a = Sun, b = Leaf}) -> 1; Pair({a = Rain(x)}) -> 2; Pair({b = Node(y)}) -> 3; _ -> 4", "Deep(P(x)) -> 1; Deep(Q(x)) -> 2; Wide(Leaf) -> 3",
    "Deep(Q(x)) -> 1; Deep(y) -> 4; Wide(Node({here = Deep(y)})) -> 2; Wide(z) -> 3", "A(Round(x)) -> 0; B -> 1; A(y) -> 2",
    "Pair({a = A, b = A}) -> 1; Pair({a = B, b = B}) -> 2; Pair({a = A, b = B}) -> 3; Pair({a = B, b = A}) -> 4; p -> 5",
    "{a = {b = A(B(C))}} -> 1; {a = {b = A(x)}} -> 2; {a = {b = y}} -> 3; z -> 4",
]


def whole_of(rows):
    return Whole(BOOK, "fn t -> match t {" + rows + "}")


def values_of(kind, depth):
    """Many values of a kind: all with at most so many steps into own kinds and variants."""
    if kind[0] == "num":
        return [("number", 0, None)]
    if kind[0] == "fn":
        return [read("fn x -> fail gap")]
    if kind[0] == "name":
        return [("record", ())]
    if kind[0] == "record":
        rows = itertools.product(*[values_of(inner, depth) for _, inner in kind[1]])
        return [("record", tuple((entry[0], value) for entry, value in zip(kind[1], row))) for row in rows]
    if depth == 0:
        return []
    if kind[0] == "own":
        found = []
        for tag in BOOK.constructors(kind[1]):
            _, words, content = BOOK.kind_of(tag)
            found += [("tag", tag, value) for value in values_of(fill(content, dict(zip(words, kind[2]))), depth - 1)]
        return found
    entries = [entry for entry in kind[1] if BOOK.kind_of(entry[0]) is None]
    if kind[2] is not None:
        entries += [("Zz", ("record", (), None)), ("Zy", ("num", ()))]
    return [("tag", tag, value) for tag, inner in entries for value in values_of(inner, depth - 1)]


def is_value_of(kind, value):
    found = widest(Whole(BOOK, show(value)))
    return is_value_tree(value) and common([kind], [found]) is not None


def first_row(rows, value):
    found = [index for index, row in enumerate(rows) if takes(row[0], value)]
    return found[0] if found else None


class Takes(unittest.TestCase):
    def test_each_pattern(self):
        for pattern, taken, refused in [
                ("_", ["1", "{}", "A(1)", "fn x -> x"], []), ("x", ["1", "{}", "A(1)", "fn x -> x"], []),
                ("A", ["A", "A({})", "A({a = 1})"], ["B", "1", "{}", "fn x -> A", "A(1)", "A(B)"]),
                ("A(x)", ["A", "A(1)", "A(B)"], ["B", "{a = A}"]), ("A(B)", ["A(B)"], ["A", "A(1)", "B(A)", "A(B(1))", "B"]),
                ("{}", ["{}", "{a = 1}"], ["1", "A", "fn x -> {}"]), ("{a = A}", ["{a = A}", "{b = 1, a = A}"], ["{}", "{a = B}", "{b = A}", "A"]),
                ("{a = x, b = {c = A}}", ["{b = {c = A}, a = 1}"], ["{a = 1}", "{a = 1, b = A}", "{a = 1, b = {c = B}}", "{b = {c = A}}"])]:
            tree = read("match 1 {" + pattern + " -> 1}")[2][0][0]
            for text in taken:
                self.assertIs(takes(tree, read(text)), True, (pattern, text))
            for text in refused:
                self.assertIs(takes(pattern=tree, tree=read(text)), False, (pattern, text))

    def test_value_trees(self):
        for text in ["0", "3[m]", "fn x -> x", "fn x -> @m(x, 1)(2 + {a = x}.a)", "{}", "{a = 1, b = A(fn x -> x)}", "A", "A(B(1))",
                     "fn x -> match x {A(y) -> y; z -> z}", "fn x -> rec f y = f(x) in f"]:
            self.assertIs(is_value_tree(read(text)), True, text)
        for text in ["x", "fn x -> y", "{a = fn y -> x}", "1 + 2", "A(1 + 2)", "{a = 1}.a", "(1 : num)", "fail w", "{a = fail w}",
                     "match A {A -> 1}", "let x = 1 in x", "rec f x = x in f", "(fn x -> x)(1)", "{{a = 1} with a = 2}", "@m()", "A(x)"]:
            self.assertIs(is_value_tree(read(text)), False, text)
        for value in [None, True, 3, "A", [], (), ["number", 0, None], ("number", True, None), ("number", 0, ()), ("any",), Ratio(1),
                      ("tag", "A", ["record", ()]), ("record", [("a", ("number", 0, None))]), ("record", (["a", ("number", 0, None)],)),
                      ("tag", "a", ("record", ())), ("number", -1, None), {}, ("tag", "A", ("any",)), ("bind", "x")]:
            self.assertIs(is_value_tree(value), False, value)


class Cases(unittest.TestCase):
    def test_examples(self):
        whole = Whole(BOOK, "fn t -> match t {Node({left = Leaf, here = x}) -> x; Leaf -> 0}")
        self.assertEqual([kind_text(matched_kind(whole, 1)), useless(whole, 1), leaks(whole)], ["tree(num['m1])", [], [("", 1)]])
        case = read(missed(whole, 1))
        self.assertEqual([is_value_tree(case), case[1], takes(("tag", "Node", ("any",)), case)], [True, "Node", True])
        rows = read("match t {Node({left = Leaf}) -> 0; Leaf -> 0}")[2]
        self.assertEqual([takes(row[0], case) for row in rows], [False, False])
        whole = Whole(BOOK, "fn t -> match t {A(Round(x)) -> 0; B -> 1; A(y) -> 2}")
        self.assertEqual([useless(whole, 1), missed(whole, 1)], [[0, 2], None])

    def test_against_many_values(self):
        seen = 0
        for rows in MATCHES:
            whole = whole_of(rows)
            kind = matched_kind(whole, 1)
            patterns = whole.knots()[1][2][2]
            values = values_of(kind, 5)[:400]
            ends = {first_row(patterns, value) for value in values}
            seen += len(values)
            text = missed(whole, 1)
            self.assertEqual(text is not None, None in ends, rows)
            self.assertEqual(leaks(whole), [] if text is None else [("", 1)])
            if text is not None:
                self.assertTrue(is_value_of(kind, read(text)), rows)
                self.assertIsNone(first_row(patterns, read(text)))
            expected = [index for index in range(len(patterns)) if index not in ends]
            self.assertEqual(useless(whole, 1), expected, rows)
            for value in values[:10]:
                self.assertTrue(is_value_of(kind, value), (rows, show(value)))
        self.assertGreater(seen, 500)

    def test_kinds(self):
        for rows, text in [("Leaf -> 1", "tree('a1)"), ("A -> 1; B(x) -> x", "<A : {| 'r1}, B : num>"), ("A -> 1; x -> 2", "<A : {| 'r1} | 'r2>"),
                           ("{a = x} -> 1", "{a : 'a1 | 'r1}"), ("_ -> 1", "'a1"), ("Sun -> 1", "day"),
                           ("{a = Some(A), b = y} -> y + 2[m]", "{a : opt(<A : {| 'r1}>), b : num[m] | 'r2}")]:
            self.assertEqual(kind_text(matched_kind(whole_of(rows), 1)), text)

    def test_kinds_without_values(self):
        whole = whole_of("Round(x) -> 1; y -> 2")
        self.assertEqual([missed(whole, 1), useless(whole, 1), leaks(whole)], [None, [0, 1], []])
        whole = Whole(BOOK, "fn t -> match (t : {a : loop, b : <A : {}>}) {{b = A} -> 1}")
        self.assertEqual([missed(whole, 1), useless(whole, 1)], [None, [0]])
        whole = Whole(BOOK, "fn t -> match (t : <Leaf : num, A : {}>) {x -> 1; y -> 2}")
        self.assertEqual([missed(whole, 1), useless(whole, 1)], [None, [1]])
        whole = Whole(BOOK, "fn t -> match (t : <Leaf : num, A : loop>) {x -> 1}")
        self.assertEqual([missed(whole, 1), useless(whole, 1)], [None, [0]])
        whole = Whole(BOOK, "fn t -> match (t : <Leaf : num, A : {} | 'r>) {A -> 1; x -> 2}")
        self.assertEqual([missed(whole, 1), useless(whole, 1)], [None, []])

    def test_contents_of_missed_values(self):
        for rows, text in [("Node({here = {f = x, n = y, k = z}}) -> x(y + 1[m])", "Leaf"), ("Leaf -> 1", "Node({here = {}, left = Leaf, right = Leaf})"),
                           ("{a = A, f = g, n = k} -> g(k + 1); {a = B} -> 2; {a = C(Sun)} -> 3",
                            "{a = C(Rain({cm = 0})), f = fn x -> fail gap, n = 0}")]:
            self.assertEqual(show(read(missed(whole_of(rows), 1))), text)

    def test_copies(self):
        whole = Whole(BOOK, "let f = fn x -> match x {A(y) -> 1; B -> 2; z -> 3} in {a = f(A(B)), b = fn t -> f(match t {A(x) -> B})}")
        knots = [knot for knot, (_, _, part) in enumerate(whole.knots()) if part[0] == "match"]
        self.assertEqual(len(knots), 4)
        self.assertTrue(all(kind_text(matched_kind(whole, knot)).startswith("<A : ") for knot in knots))
        whole = Whole(BOOK, "{a = fn x -> @case(x), b = fn y -> match y {A -> 1; z -> 2}, c = fn y -> match y {Sun -> 1}, d = fn y -> match y {Some(A) -> 1}}")
        places = [place for place, _, part in whole.knots() if part[0] == "match"]
        self.assertEqual([place[0] for place in places], ["@case", "", "", ""])
        self.assertEqual(leaks(whole), sorted(places[2:]))

    def test_leaks_over_all_copies(self):
        text = "let f = fn x -> match x {Some(A) -> 1; None -> 2} in {p = f, q = match Sun {Sun -> f}}"
        whole = Whole(BOOK, text)
        self.assertEqual(leaks(whole), [place for place in whole.places() if whole.where(place) == "match Sun {Sun -> f}"])
        self.assertEqual(leaks(Whole(BOOK, "1")), [])

    def test_exceptions(self):
        whole = Whole(BOOK, "{a = match A {A -> 1}, b = 1(2)}")
        for ask in [matched_kind, missed, useless]:
            for knot in [0, 2, 3, 99, -1, True, None, "1", (1,), [1]]:
                with self.assertRaises(BadKnot) as caught:
                    ask(whole, knot)
                self.assertIs(caught.exception.given, knot)
            with self.assertRaises(NoKind):
                ask(whole, 1)
        for text in ["1(2)", "{a = match A {A -> 1}, b = 1(2)}"]:
            with self.assertRaises(NoKind):
                leaks(Whole(BOOK, text))

    def test_useless_rows_could_be_left_out(self):
        for rows in MATCHES:
            whole = whole_of(rows)
            left_out = useless(whole, 1)
            patterns = read(whole.text)[2][2]
            kept = [index for index in range(len(patterns)) if index not in left_out]
            for value in values_of(matched_kind(whole, 1), 4)[:100]:
                first = first_row(patterns, value)
                again = first_row([patterns[index] for index in kept], value)
                self.assertEqual(first, None if again is None else kept[again])
        self.assertEqual(len(parts(read("1"))), 1)


if __name__ == "__main__":
    unittest.main()
