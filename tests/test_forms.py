import unittest

from widestkind.books import Book
from widestkind.errors import BadForm, BadKind, NoKind
from widestkind.fillings import is_filling, told
from widestkind.forms import erase, is_form, is_form_of, judge
from widestkind.kinds import fill, kind_text, names_in, read_kind
from widestkind.ratios import Ratio
from widestkind.reading import read
from widestkind.wholes import Whole
from widestkind.widest import can_have, explicit, form_with, widest

BOOK = ("kind tree 'a = Leaf | Node({left : tree('a), here : 'a})\nkind day = Sun | Rain(num[cm])\n"
        "macro both(e) = {a = e, b = e}\ndef twice = fn f -> fn x -> f(f(x))\n"
        "def even = fn x -> match x < 1 {Yes -> T; No -> odd(x - 1)}\n"
        "def odd = fn x -> match x < 1 {Yes -> F; No -> even(x - 1)}\ndef sq = fn x -> x * x\n"
        "def more = fn x -> let s = fn y -> sq(x) * y + 1[m] in s\ndef bad = 1(2)")

WIDEST = {
    "3[m]": "num[m]", "0": "num['m1]", "fail w": "'a1", "fn x -> x": "'a1 -> 'a1", "twice(twice)": "('a1 -> 'a1) -> 'a1 -> 'a1",
    "fn x -> fn y -> {a = x * y, b = x / y, c = x < y}":
        "num['m1] -> num['m1] -> {a : num['m1^2], b : num, c : <No : {}, Yes : {}>}",
    "fn r -> {r with a = r.a + 0}": "{a : num['m1] | 'r1} -> {a : num['m1] | 'r1}",
    "fn t -> match t {Node({left = Leaf, here = h}) -> h; Node(n) -> n.here; Leaf -> fail none}": "tree('a1) -> 'a1",
    "fn x -> match x {A(B) -> 1; A(C) -> 2; D(y) -> y}": "<A : <B : {| 'r1}, C : {| 'r2}>, D : num> -> num",
    "fn x -> (x : <A : 'b | 'q> -> num['u])": "(<A : 'a1 | 'r1> -> num['m1]) -> <A : 'a1 | 'r1> -> num['m1]",
    "rec f x = f(x) in {a = f(1), b = f(T)}": "{a : 'a1, b : 'a2}", "even": "num -> <F : {}, T : {} | 'r1>",
    "{a = even(1), b = odd(2), c = more}":
        "{a : <F : {}, T : {} | 'r1>, b : <F : {}, T : {} | 'r2>, c : num['m1] -> num['m1^-2 m] -> num[m]}",
    "@both(let id = fn x -> x in {p = id(id), q = id(1)})": "{a : {p : 'a1 -> 'a1, q : num}, b : {p : 'a2 -> 'a2, q : num}}",
    "fn x -> let f = fn a -> fn b -> x + a * b in {p = f(1[m]), q = f(2[s])}":
        "num['m1] -> {p : num['m1 m^-1] -> num['m1], q : num['m1 s^-1] -> num['m1]}",
    "fn y -> let f = fn x -> {a = x, b = y} in {p = f(1), q = f(y), r = f}":
        "'a1 -> {p : {a : num, b : 'a1}, q : {a : 'a1, b : 'a1}, r : 'a2 -> {a : 'a2, b : 'a1}}",
    "fn x -> rec f a = fn b -> {p = x * x + a * b, q = f(a)(b).p} in {p = f(1[m]), r = f}":
        "num['m1] -> {p : num['m1^2 m^-1] -> {p : num['m1^2], q : num['m1^2]}, "
        "r : num['m2] -> num['m1^2 'm2^-1] -> {p : num['m1^2], q : num['m1^2]}}",
    "fn r -> let h = fn a -> {r with b = a} in {p = h(1), q = h(T), s = h}":
        "{b : 'a1 | 'r1} -> {p : {b : num | 'r1}, q : {b : <T : {} | 'r2> | 'r1}, s : 'a2 -> {b : 'a2 | 'r1}}",
    "Rain(0)": "day", "(fn x -> x : num -> num)(3)": "num",
    "fn x -> let s = fn b -> x * b * b in {p = s, q = s(0), r = x + 1}": "num -> {p : num['m1] -> num['m1^2], q : num['m2^2], r : num}",
}

WITHOUT = ["1(2)", "fn x -> x(x)", "bad", "{a = bad}.b", "3[m] + 2[s]"]


def whole(text):
    return Whole(Book(BOOK), text)


class Widest(unittest.TestCase):
    def test_examples(self):
        book = Book("def twice = fn f -> fn x -> f(f(x))")
        one = Whole(book, "let id = fn x -> x in id(3[m])")
        self.assertEqual([kind_text(widest(one)), can_have(one, read_kind("num[s]"))], ["num[m]", False])
        self.assertIs(judge(book, explicit(one)) == ("num", (("m", 1),)), True)
        self.assertEqual(kind_text(widest(Whole(book, "twice(fn r -> {r with a = 0 + r.a})"))),
                         "{a : num['m1] | 'r1} -> {a : num['m1] | 'r1}")
        form = form_with(Whole(book, "fn x -> x"), read_kind("num -> num"))
        self.assertEqual(form, ("form", (), ("fn", "x", ("num", ()), ("name", "x", None))))
        with self.assertRaises(BadForm) as caught:
            judge(book, ("form", (), ("call", form[2], ("number", 3, (("m", 1),), (("m", 1),)))))
        self.assertEqual(caught.exception.number, 0)

    def test_widest(self):
        for text, expected in WIDEST.items():
            self.assertEqual(kind_text(widest(whole(text))), expected, text)
            self.assertEqual(widest(whole(text)), told(widest(whole(text))))
        for text in WITHOUT:
            with self.assertRaises(NoKind):
                widest(whole(text))

    def test_kinds_that_a_text_can_have(self):
        one = whole("fn x -> {a = x, b = 0}")
        for text, fine in [("'a1 -> {a : 'a1, b : num['m1]}", True), ("'q -> {a : 'q, b : num}", True),
                           ("tree(day) -> {a : tree(day), b : num[m^2 s]}", True), ("num -> {a : num[m], b : num}", False),
                           ("'q -> {a : 'q, b : 'q}", False), ("'q -> {a : 'q}", False), ("'q -> {a : 'q, b : num | 'r}", False),
                           ("'a", False), ("{a : 'r1 | 'z} -> {a : {a : 'r1 | 'z}, b : num['w]}", True)]:
            self.assertIs(can_have(one, read_kind(text)), fine, text)
            self.assertIs(form_with(one, read_kind(text)) is not None, fine, text)
        for text in WITHOUT:
            self.assertIs(can_have(whole(text), read_kind("num")), False)
            self.assertIsNone(form_with(whole(text), read_kind("num")))
            with self.assertRaises(NoKind):
                explicit(whole(text))

    def test_values_that_are_no_kinds_of_the_book(self):
        for text in ["fn x -> x", "1(2)"]:
            one = whole(text)
            for value in [None, True, 1, "num", [], (), ["num", ()], ("num",), ("num", []), ("name", "a"), Ratio(1), {},
                          read_kind("none"), read_kind("tree"), read_kind("tree(num, num)"), read_kind("day(num)"),
                          read_kind("{a : {b : tree(odd)}}"), ("fn", ("name", "'a"), ("num", (("'a", 1),)))]:
                for call in [can_have, form_with]:
                    with self.assertRaises(BadKind) as caught:
                        call(whole=one, kind=value)
                    self.assertIs(caught.exception.given, value)


class Explicit(unittest.TestCase):
    def test_forms_of_wholes(self):
        for text in WIDEST:
            one = whole(text)
            form = explicit(one)
            self.assertTrue(is_form(one.book, form), text)
            self.assertEqual(told(judge(one.book, form)), widest(one), text)
            self.assertIs(is_form_of(one, form), True, text)
            tree, trees = erase(form)
            self.assertEqual(tree, one.tree())
            self.assertEqual(explicit(whole(text)), form)

    def test_definitions(self):
        for text, names in [("1", []), ("twice", ["twice"]), ("odd(1)", ["even", "odd"]), ("more(1)", ["more", "sq"]),
                            ("{a = even, b = twice, c = sq}", ["even", "odd", "sq", "twice"]), ("fn odd -> odd", [])]:
            one = whole(text)
            tree, trees = erase(explicit(one))
            self.assertEqual(sorted(trees), names, text)
            for name in names:
                self.assertEqual(trees[name], one.book.tree_of(name))
        groups = explicit(whole("{a = odd, b = more}"))[1]
        self.assertEqual([[name for name, _, _ in entries] for _, entries in groups if len(entries) > 1], [["even", "odd"]])

    def test_forms_with_kinds(self):
        for text, kinds in [("fn x -> x", ["num -> num", "'m1 -> 'm1", "{a : num['a1] | 'r1} -> {a : num['a1] | 'r1}"]),
                            ("0", ["num", "num[m]", "num['a1 'm1^2 m]"]),
                            ("fn y -> let f = fn x -> {a = x, b = y} in f",
                             ["'a1 -> 'a1 -> {a : 'a1, b : 'a1}", "'x -> num['y] -> {a : num['y], b : 'x}",
                              "('a2 -> 'a1) -> 'm1 -> {a : 'm1, b : 'a2 -> 'a1}"]),
                            ("fn x -> let f = fn a -> fn b -> x + a * b in {p = f(1[m]), q = f}",
                             ["num['b] -> {p : num['b m^-1] -> num['b], q : num['c] -> num['b 'c^-1] -> num['b]}",
                              "num[m] -> {p : num -> num[m], q : num['m1 m^2] -> num['m1^-1 m^-1] -> num[m]}"]),
                            ("fn r -> let h = fn a -> {r with b = a} in {p = h(1), q = h, s = r}",
                             ["{b : num, c : 'k | 'r} -> {p : {b : num, c : 'k | 'r}, q : 'k -> {b : 'k, c : 'k | 'r}, s : {b : num, c : 'k | 'r}}",
                              "{b : 'r1} -> {p : {b : num}, q : {} -> {b : {}}, s : {b : 'r1}}"]),
                            ("more", ["num[s] -> num[m s^-2] -> num[m]", "num['m9^-1] -> num['m9^2 m] -> num[m]"])]:
            one = whole(text)
            for kind in [read_kind(kind) for kind in kinds]:
                self.assertTrue(can_have(one, kind), (text, kind_text(kind)))
                form = form_with(one, kind)
                self.assertEqual(judge(one.book, form), kind)
                self.assertTrue(is_form_of(one, form))
            self.assertEqual(judge(one.book, form_with(one, widest(one))), widest(one))
        self.assertIsNone(form_with(whole("fn x -> x"), read_kind("num -> num[m]")))


    def test_forms_with_filled_kinds(self):
        for text in ["fn x -> let f = fn a -> {a = a, b = {x with c = a}, d = A(a), e = fail w} in {p = f, q = f(x), r = f(0)}",
                     "fn x -> fn y -> rec g z = match y {A(b) -> {a = x * b, b = g(z)}.b; c -> fail w} in {p = g(1), q = g(x), r = g}",
                     "fn x -> let f = fn a -> fn t -> match t {A(b) -> {t = b * a * x, u = B}; C -> {t = 0, u = D}} in {p = f, q = f(x), r = f(0)}",
                     "fn t -> fn x -> match t {Node({here = h}) -> {h with a = x}; Leaf -> {a = x, b = 0}}",
                     "fn r -> let f = fn a -> (r : {k : 'x | 'r}) in {p = f(1), q = f(r), s = r.k(0)}"]:
            one = whole(text)
            kind = widest(one)
            kinds, records, variants, measures = names_in([kind])
            table = {name: read_kind("{a : num['w1] | 'w2} -> 'w3") for name in kinds}
            table.update({name: ((("zz", read_kind("'w4")),), "'q" + str(at + 1)) for at, name in enumerate(records)})
            table.update({name: ((("Z", read_kind("num['w5]")),), None) for name in variants})
            table.update({name: (("'w1", at + 1), ("'w6", 1), ("m", -1)) for at, name in enumerate(measures)})
            for some in [table, {name: table[name] for name in measures}, {name: table[name] for name in kinds + variants}]:
                filled = fill(kind, some)
                form = form_with(one, filled)
                self.assertEqual(judge(one.book, form), filled)
                self.assertTrue(is_form_of(one, form))


class IsForm(unittest.TestCase):
    def form(self, tree, groups=()):
        return ("form", groups, tree)

    def test_right_ones(self):
        book = Book(BOOK)
        num, name = read_kind("num['m]"), ("name", "'a")
        one = ("number", 1, None, ())
        trees = [("number", 0, None, (("'m", 2), ("m", 1))), ("number", 3, (("m", 1),), ()), ("name", "x", None), ("name", "x", ()),
                 ("name", "x", (("'a", num), ("'a", ()), ("'r", ((("b", num),), "'q")), ("'v", ((("B", name),), None)), ("'e", ((), None)))),
                 ("name", "x", (("'a", ("own", "none", ())), ("'r", ((("b", ("own", "tree", ())),), None)))),
                 ("fail", "w", name), ("fn", "x", num, one), ("call", one, one), ("let", "x", ("'a", "'b"), one, one),
                 ("let", "x", (), one, one), ("rec", "f", "x", ("'a",), num, one, one), ("record", ()), ("record", (("b", one), ("a", one))),
                 ("with", one, "a", one), ("field", one, "a"), ("tag", "T", one, name), ("op", "<", one, one),
                 ("match", one, ((("any",), one), (("tag", "T", ("bind", "x")), one))), ("told", one, read_kind("tree(day) -> 'x"))]
        for tree in trees:
            self.assertIs(is_form(book, self.form(tree)), True, tree)
            groups = ((("'z",), (("none", name, tree), ("twice", num, one))), ((), (("other", num, one),)))
            self.assertIs(is_form(value=self.form(tree, groups), book=book), True, tree)

    def test_spoilt_ones(self):
        book = Book(BOOK)
        num, name = read_kind("num['m]"), ("name", "'a")
        one = ("number", 1, None, ())
        stray = ("fn", ("name", "'m"), num)
        trees = [("number", 1, None), ("number", -1, None, ()), ("number", True, None, ()), ("number", 1, (), ()), ("number", 1, (("'m", 1),), ()),
                 ("number", 1, None, None), ("number", 1, None, []), ("number", 1, None, (), 1), ("name", "x"), ("name", "fn", None),
                 ("name", "x", []), ("name", "x", (("a", num),)), ("name", "x", (("'a",),)), ("name", "x", (["'a", num],)),
                 ("name", "x", (("'a", None),)), ("name", "x", (("'a", stray),)), ("name", "x", (("'a", ("own", "None", ())),)),
                 ("name", "x", (("'a", ((("b", num), ("a", num)), None)),)), ("name", "x", (("'a", ((("b", num),), "b")),)),
                 ("name", "x", (("'a", [(), None]),)), ("name", "x", (("'a", ((("b", num), ("B", num)), None)),)),
                 ("fail", "w"), ("fail", "W", name), ("fail", "w", None), ("fn", "x", one), ("fn", "x", stray, one), ("fn", "1", num, one),
                 ("fn", "x", num, num), ("call", one), ("call", one, None), ("let", "x", ["'a"], one, one), ("let", "x", ("'a", "'a"), one, one),
                 ("let", "x", ("a",), one, one), ("let", "x", one, one), ("rec", "f", "f", (), num, one, one), ("rec", "f", "x", (), one, one),
                 ("rec", "f", "x", None, num, one, one), ("rec", "f", "x", (), (), one, one), ("record", (("a", one), ("a", one))),
                 ("record", [("a", one)]), ("record", (("A", one),)), ("record", (("a", one, one),)), ("with", one, "A", one), ("field", one, "A"),
                 ("tag", "t", one, name), ("tag", "T", one), ("tag", "T", one, ("name", "a")), ("match", one, ()), ("match", one, ((("bind", "X"), one),)),
                 ("match", one, ((("any",), one, one),)), ("match", one, ((("record", (("a", ("bind", "x")), ("b", ("bind", "x")))), one),)),
                 ("match", one, [(("any",), one)]), ("op", "^", one, one), ("told", one, None), ("told", one, ("own", "tree", ())),
                 ("macro", "both", (one,)), ("any",), ("bind", "x"), None, (), [], 1, True, "x", list(one), Ratio(1), ("number",), (1, 2, 3, 4)]
        for tree in trees:
            self.assertIs(is_form(book, self.form(tree)), False, tree)
            self.assertIs(is_form(book, self.form(("call", one, tree))), False, tree)
            self.assertIs(is_form(book, self.form(one, (((), (("twice", num, tree),)),))), False, tree)
            with self.assertRaises(BadForm) as caught:
                judge(book, self.form(("call", tree, tree)))
            self.assertIsNone(caught.exception.number)
        for groups in [None, [], (((),),), (((), ()),), (([], (("twice", num, one),)),), (((), [("twice", num, one)]),), (((), (["twice", num, one],)),),
                       (((), (("twice", num),)),), (((), (("x1", num, one),)),), (((), (("fn", num, one),)),), (((), (("twice", stray, one),)),),
                       ((("'a", "'a"), (("twice", num, one),)),), (((), (("twice", num, one), ("twice", num, one))),), (((), (("a", num, one), (["b"], num, one))),),
                       (((), (("twice", num, one),)), ((), (("twice", num, one),))), ((("a",), (("twice", num, one),)),), ([(), (("twice", num, one),)],)]:
            self.assertIs(is_form(book, self.form(one, groups)), False, groups)
        for value in [None, 1, True, "", "form", (), [], {}, ("form", ()), ["form", (), one], ("forms", (), one), ("form", (), one, 1), Ratio(1), (["form"], (), one)]:
            self.assertIs(is_form(book, value), False)
            with self.assertRaises(BadForm) as caught:
                judge(book=book, form=value)
            self.assertIsNone(caught.exception.number)
            self.assertIs(is_form_of(Whole(book, "1"), value), False)


ONE = ("number", 1, None, ())
NUM = ("num", ())
UNIT = ("record", ())


class Rules(unittest.TestCase):
    def told(self, tree, groups=(), lines=BOOK):
        """The text of the kind of a form, or the number of the part that is wrong."""
        try:
            return kind_text(judge(Book(lines), ("form", groups, tree)))
        except BadForm as wrong:
            return wrong.number

    def test_numbers_and_faults(self):
        meter = (("m", 1),)
        for tree, told_kind in [(("number", 3, meter, meter), "num[m]"), (("number", 3, meter, ()), 0), (("number", 3, None, ()), "num"),
                                (("number", 3, None, meter), 0), (("number", 0, None, (("'m", 2),)), "num['m^2]"), (("number", 0, meter, meter), "num[m]"),
                                (("number", 0, meter, ()), 0), (("fail", "w", read_kind("'a -> tree('a)")), "'a -> tree('a)")]:
            self.assertEqual(self.told(tree), told_kind, tree)

    def test_functions_and_names(self):
        name = ("name", "x", None)
        self.assertEqual(self.told(("fn", "x", NUM, name)), "num -> num")
        self.assertEqual(self.told(("fn", "x", NUM, ("name", "x", ()))), 1)
        self.assertEqual(self.told(("fn", "x", NUM, ("name", "y", None))), 1)
        self.assertEqual(self.told(("fn", "x", NUM, ("fn", "x", ("name", "'a"), name))), "num -> 'a -> 'a")
        self.assertEqual(self.told(("call", ("fn", "x", NUM, ("fail", "w", ("name", "'a"))), ONE)), "'a")
        self.assertEqual(self.told(("call", ("fn", "x", ("name", "'a"), name), ONE)), 0)
        self.assertEqual(self.told(("call", ONE, ONE)), 0)
        self.assertEqual(self.told(("call", ("name", "y", None), ("name", "z", None))), 1)
        self.assertEqual(self.told(("fn", "x", ("name", "'a"), ("fail", "w", read_kind("num['a]")))), 0)
        self.assertEqual(self.told(("fn", "x", read_kind("{a : num | 'a}"), ("fail", "w", read_kind("{b : num | 'a}")))), 0)

    def test_lets_and_tables(self):
        identity = ("fn", "y", ("name", "'a"), ("name", "y", None))

        def use(*table):
            return ("let", "f", ("'a",), identity, ("name", "f", table))

        self.assertEqual(self.told(use(("'a", NUM))), "num -> num")
        self.assertEqual(self.told(use(("'a", ("name", "'a")))), "'a -> 'a")
        for table in [(), (("'b", NUM),), (("'a", NUM), ("'b", NUM)), (("'a", NUM), ("'a", NUM)), (("'a", ()),), (("'a", ((), None)),)]:
            self.assertEqual(self.told(use(*table)), 3, table)
        self.assertEqual(self.told(("let", "f", ("'a",), identity, ("name", "f", None))), 3)

    def test_tables_of_other_sorts(self):
        kind = read_kind("{a : num['m] | 'r} -> <A : 'k | 'v>")
        names = ("'m", "'r", "'k", "'v", "'none")

        def use(*things):
            return ("let", "f", names, ("fail", "w", kind), ("name", "f", tuple(zip(names, things))))

        good = [(("s", 2),), ((("b", NUM),), "'q"), ("name", "'m"), ((), None), ()]
        self.assertEqual(self.told(use(*good)), "{a : num[s^2], b : num | 'q} -> <A : 'm>")
        for index, thing in [(0, NUM), (0, ((), None)), (1, ()), (1, ((("a", NUM),), None)), (1, ((("B", NUM),), None)), (1, NUM), (2, ()), (2, ((), None)),
                             (3, ((("A", NUM),), None)), (3, ((("a", NUM),), None)), (1, ((("b", NUM),), "'m")), (2, ("name", "'q"))]:
            self.assertEqual(self.told(use(*good[:index], thing, *good[index + 1:])), 2, (index, thing))
        self.assertEqual(self.told(use(*good[:4], NUM)), "{a : num[s^2], b : num | 'q} -> <A : 'm>")
        strange = ("own", "none", ())
        self.assertEqual(self.told(use(*good[:4], strange)), "{a : num[s^2], b : num | 'q} -> <A : 'm>")
        self.assertEqual(self.told(use(*good[:2], strange, *good[3:])), 2)
        self.assertEqual(self.told(use(good[0], ((("b", ("own", "tree", ())),), None), *good[2:])), 2)

    def test_names_that_are_free(self):
        inner = ("fn", "y", ("name", "'a"), ("name", "y", None))
        let = ("let", "f", ("'a",), inner, UNIT)
        self.assertEqual(self.told(let), "{}")
        self.assertEqual(self.told(("fn", "x", ("name", "'b"), let)), "'b -> {}")
        self.assertEqual(self.told(("fn", "x", ("name", "'a"), let)), 1)
        self.assertEqual(self.told(("fn", "x", ("name", "'a"), ("fn", "x", NUM, let))), 2)
        self.assertEqual(self.told(("fn", "x", ("name", "'a"), ("let", "f", (), inner, UNIT))), "'a -> {}")
        self.assertEqual(self.told(("let", "g", ("'a",), inner, let)), "{}")
        self.assertEqual(self.told(("let", "g", (), inner, let)), 3)
        self.assertEqual(self.told(("let", "g", ("'b",), inner, let)), 3)
        self.assertEqual(self.told(("fn", "x", read_kind("num['a]"), let)), 1)
        self.assertEqual(self.told(("fn", "x", read_kind("{| 'a}"), let)), 1)
        self.assertEqual(self.told(("match", ("fail", "w", ("name", "'a")), ((("bind", "x"), let),))), 4)
        self.assertEqual(self.told(("match", ("fail", "w", ("name", "'a")), ((("any",), let),))), "{}")
        self.assertEqual(self.told(("let", "h", (), ("fn", "x", ("name", "'a"), let), UNIT)), 2)
        rec = ("rec", "f", "y", ("'a",), read_kind("'a -> 'a"), ("name", "y", None), UNIT)
        self.assertEqual(self.told(rec), "{}")
        self.assertEqual(self.told(("fn", "x", ("name", "'a"), rec)), 1)
        self.assertEqual(self.told(("rec", "g", "z", (), read_kind("'a -> {}"), rec, UNIT)), 1)
        self.assertEqual(self.told(("rec", "g", "z", ("'a",), read_kind("'a -> {}"), UNIT, rec)), "{}")

    def test_recs(self):
        kind = read_kind("'a -> num")
        body = ("call", ("name", "f", None), ("name", "x", None))
        use = ("call", ("name", "f", (("'a", NUM),)), ONE)
        self.assertEqual(self.told(("rec", "f", "x", ("'a",), kind, body, use)), "num")
        self.assertEqual(self.told(("rec", "f", "x", ("'a",), NUM, ("name", "none", None), use)), 0)
        self.assertEqual(self.told(("rec", "f", "x", ("'a",), kind, ("name", "x", None), use)), 0)
        self.assertEqual(self.told(("rec", "f", "x", ("'a",), kind, ("name", "f", (("'a", NUM),)), use)), 1)
        self.assertEqual(self.told(("rec", "f", "x", ("'a",), kind, body, ("name", "x", None))), 4)
        self.assertEqual(self.told(("rec", "f", "x", (), kind, body, ("call", ("name", "f", ()), ONE))), 4)

    def test_records(self):
        self.assertEqual(self.told(("record", (("b", ONE), ("a", UNIT)))), "{a : {}, b : num}")
        open_record = ("fail", "w", read_kind("{a : num, c : 'x | 'r}"))
        self.assertEqual(self.told(("with", open_record, "a", UNIT)), "{a : {}, c : 'x | 'r}")
        self.assertEqual(self.told(("with", open_record, "b", UNIT)), 0)
        self.assertEqual(self.told(("with", ONE, "a", UNIT)), 0)
        self.assertEqual(self.told(("with", open_record, "a", ("fail", "w", read_kind("num['x]")))), 0)
        self.assertEqual(self.told(("field", open_record, "c")), "'x")
        self.assertEqual(self.told(("field", open_record, "r")), 0)
        self.assertEqual(self.told(("field", ("fail", "w", read_kind("<A : num>")), "a")), 0)
        self.assertEqual(self.told(("record", (("a", ("fail", "w", ("name", "'a"))), ("b", ("fail", "w", read_kind("num['a]")))))), 0)

    def test_tags(self):
        self.assertEqual(self.told(("tag", "A", ONE, read_kind("<A : num, B : 'x | 'r>"))), "<A : num, B : 'x | 'r>")
        for kind in ["<A : {}>", "<B : num>", "num", "{a : num}", "tree(num)", "'a"]:
            self.assertEqual(self.told(("tag", "A", ONE, read_kind(kind))), 0)
        self.assertEqual(self.told(("tag", "Leaf", UNIT, read_kind("tree('x)"))), "tree('x)")
        for content, kind in [(ONE, "tree(num)"), (UNIT, "day"), (UNIT, "<Leaf : {}>"), (UNIT, "num")]:
            self.assertEqual(self.told(("tag", "Leaf", content, read_kind(kind))), 0)
        node = ("record", (("here", ONE), ("left", ("tag", "Leaf", UNIT, read_kind("tree(num)")))))
        self.assertEqual(self.told(("tag", "Node", node, read_kind("tree(num)"))), "tree(num)")
        self.assertEqual(self.told(("tag", "Node", node, read_kind("tree(day)"))), 0)

    def match(self, kind, *rows):
        return self.told(("match", ("fail", "w", read_kind(kind)), tuple((read("match 1 {" + row + " -> 1}")[2][0][0], tree) for row, tree in rows)))

    def test_patterns(self):
        bound = ("name", "x", None)
        self.assertEqual(self.match("tree(num)", ("Node({here = x})", bound), ("_", ONE)), "num")
        self.assertEqual(self.match("tree(num)", ("Node({left = x})", bound)), "tree(num)")
        self.assertEqual(self.match("{a : <B : 'x>} ", ("{a = B(x)}", bound)), "'x")
        self.assertEqual(self.match("tree(num)", ("Sun", ONE)), 3)
        self.assertEqual(self.match("<Leaf : num>", ("Leaf", ONE)), 3)
        self.assertEqual(self.match("<A : num>", ("B", ONE)), 3)
        self.assertEqual(self.match("num", ("A", ONE)), 3)
        self.assertEqual(self.match("<A : num>", ("A", ONE)), 4)
        self.assertEqual(self.match("num", ("{}", ONE)), 3)
        self.assertEqual(self.match("{a : num}", ("{a = _, b = x}", bound)), 3)
        self.assertEqual(self.match("{a : num, b : {}}", ("{b = x, a = A}", bound)), 5)
        self.assertEqual(self.match("tree(num)", ("Node({here = A, left = Leaf})", ONE)), 5)
        self.assertEqual(self.match("num", ("x", bound), ("_", bound)), 7)
        self.assertEqual(self.match("num", ("A", ("name", "none", None))), 3)

    def test_rows(self):
        self.assertEqual(self.match("num", ("_", ONE), ("_", UNIT)), 5)
        self.assertEqual(self.match("num", ("_", ONE), ("_", ("number", 0, None, (("m", 1),)))), 5)
        self.assertEqual(self.match("num", ("_", UNIT), ("A", UNIT)), 6)
        self.assertEqual(self.match("num", ("_", ONE), ("_", UNIT), ("_", ("name", "none", None))), 5)

    def test_closings(self):
        self.assertEqual(self.match("<A : num>", ("A(_)", ONE)), "num")
        self.assertEqual(self.match("<A : num | 'r>", ("A(_)", ONE)), 0)
        self.assertEqual(self.match("<A : num, B : num>", ("A(_)", ONE)), 0)
        self.assertEqual(self.match("<A : num, B : num | 'r>", ("A(_)", ONE), ("x", ONE)), "num")
        self.assertEqual(self.match("<A : num, B : num>", ("B(_)", ONE), ("A(x)", ONE)), "num")
        self.assertEqual(self.match("{a : <A : {}>, b : <B : {} | 'r>}", ("{a = A, b = B}", ONE), ("{a = A}", ONE)), "num")
        self.assertEqual(self.match("{a : <A : {} | 'q>, b : <B : {} | 'r>}", ("{a = A, b = B}", ONE), ("{a = A}", ONE)), 0)
        self.assertEqual(self.match("tree(<A : {}>)", ("Node({here = A})", ONE), ("Leaf", ONE)), "num")
        self.assertEqual(self.match("tree(<A : {}, B : {}>)", ("Node({here = A})", ONE), ("Leaf", ONE)), 0)
        self.assertEqual(self.match("tree(<A : {}, B : {}>)", ("Node({here = A})", ONE), ("Node(_)", ONE)), "num")

    def test_operations_and_told_kinds(self):
        meter, free = ("number", 2, (("m", 1),), (("m", 1),)), ("number", 0, None, (("'m", 1),))
        for sign, one, other, expected in [("+", meter, meter, "num[m]"), ("-", free, free, "num['m]"), ("+", meter, ONE, 0), ("-", free, meter, 0),
                                           ("<", meter, meter, "<No : {}, Yes : {}>"), ("<", meter, ONE, 0), ("*", meter, free, "num['m m]"),
                                           ("/", meter, meter, "num"), ("/", ONE, free, "num['m^-1]"), ("*", UNIT, ONE, 0), ("+", UNIT, UNIT, 0), ("<", ONE, UNIT, 0)]:
            self.assertEqual(self.told(("op", sign, one, other)), expected, (sign, one, other))
        self.assertEqual(self.told(("told", meter, read_kind("num['x]"))), "num[m]")
        self.assertEqual(self.told(("told", meter, read_kind("'x"))), "num[m]")
        self.assertEqual(self.told(("told", meter, read_kind("num"))), 0)
        self.assertEqual(self.told(("told", free, read_kind("num[m]"))), 0)

    def test_groups(self):
        identity = read_kind("'a -> 'a")
        tree = ("fn", "x", ("name", "'a"), ("name", "x", None))
        use = ("name", "id", (("'a", NUM),))
        group = (("'a",), (("id", identity, tree),))
        self.assertEqual(self.told(use, (group,)), "num -> num")
        self.assertEqual(self.told(("name", "id", None), (group,)), 2)
        self.assertEqual(self.told(use, ()), 0)
        self.assertEqual(self.told(use, ((("'a",), (("id", read_kind("'a -> num"), tree),)),)), 0)
        other = ((), (("two", read_kind("num -> num"), use),))
        self.assertEqual(self.told(("name", "two", ()), (group, other)), "num -> num")
        self.assertEqual(self.told(("name", "two", ()), (other, group)), 0)
        call = ("fn", "x", NUM, ("call", ("name", "b", None), ("name", "x", None)))
        back = ("fn", "x", NUM, ("call", ("name", "a", None), ("name", "x", None)))
        ring = (("'k",), (("a", read_kind("num -> 'k"), call), ("b", read_kind("num -> 'k"), back)))
        self.assertEqual(self.told(("name", "b", (("'k", read_kind("{}")),)), (ring,)), "num -> {}")
        wrong = ("fn", "x", NUM, ("call", ("name", "a", (("'k", NUM),)), ("name", "x", None)))
        self.assertEqual(self.told(ONE, ((("'k",), (("a", read_kind("num -> 'k"), call), ("b", read_kind("num -> 'k"), wrong))),)), 6)
        self.assertEqual(self.told(ONE, ((("'k",), (("a", read_kind("num -> 'k"), call), ("b", read_kind("num -> num"), back))),)), 0)

    def test_names_of_groups(self):
        let = ("let", "f", ("'a",), ("fn", "y", ("name", "'a"), ("name", "y", None)), UNIT)
        fault = ("fail", "w", ("name", "'a"))
        self.assertEqual(self.told(let, ((("'a",), (("d", ("name", "'a"), fault),)),)), "{}")
        self.assertEqual(self.told(let, (((), (("d", ("name", "'a"), fault),)),)), 1)
        self.assertEqual(self.told(UNIT, ((("'a",), (("d", ("name", "'a"), ("call", ("fn", "z", ("record", (), None), fault), let)),)),)), 3)
        self.assertEqual(self.told(ONE, ((("'a", "'b"), (("d", ("name", "'c"), ("fail", "w", ("name", "'c"))),)),)), "num")

    def test_order_of_going(self):
        bad = ("name", "none", None)
        self.assertEqual(self.told(("call", ("call", ONE, ONE), bad)), 1)
        self.assertEqual(self.told(("call", ONE, ("call", bad, ("call", ONE, ONE)))), 3)
        self.assertEqual(self.told(("record", (("b", ("field", ONE, "a")), ("a", bad)))), 1)
        self.assertEqual(self.told(("let", "x", (), bad, ("name", "more", None))), 1)
        self.assertEqual(self.told(("rec", "f", "x", (), NUM, bad, bad)), 0)
        self.assertEqual(self.told(bad, (((), (("d", NUM, ("call", ONE, ONE)),)),)), 0)
        self.assertEqual(self.told(bad, (((), (("d", NUM, ONE), ("e", NUM, ("call", ONE, ONE)))),)), 1)
        self.assertEqual(self.told(bad, (((), (("d", NUM, ONE),)), ((), (("e", NUM, ONE),)))), 2)
        self.assertEqual(self.match("num", ("_", ("call", ONE, ONE)), ("A", ONE)), 4)

    def test_deep_forms(self):
        tree = ONE
        for _ in range(500):
            tree = ("record", (("a", tree),))
        self.assertEqual(self.told(tree).count("a"), 500)
        self.assertEqual(self.told(("op", "+", tree, ONE)), 0)
        self.assertEqual(self.told(("match", ONE, ((("any",), tree), (("any",), tree)))), self.told(tree))


class Erasing(unittest.TestCase):
    def test_erase(self):
        text = ("let f = fn x -> (x : 'a) in rec g y = match y {A({a = z}) -> {z with b = 3[m]}.b; _ -> fail w} in "
                "{p = f(T(0)), q = g(A({a = {b = 1[m]}})) < 2[m] * 1}")
        one = whole(text)
        self.assertEqual(erase(form=explicit(one)), (read(text), {}))
        tree, trees = erase(explicit(whole("twice(sq)")))
        self.assertEqual([tree, trees], [read("twice(sq)"), {"sq": read("fn x -> x * x"), "twice": read("fn f -> fn x -> f(f(x))")}])
        self.assertEqual(erase(("form", (((), (("any", NUM, ONE),)),), ("number", 0, (("m", 1),), ()))),
                         (("number", 0, (("m", 1),)), {"any": ("number", 1, None)}))

    def test_forms_of_wholes(self):
        one = whole("sq(3)")
        form = explicit(one)
        group = form[1][0]
        self.assertTrue(is_form_of(value=form, whole=one))
        more = ((), (("day", NUM, ONE),))
        twice = explicit(whole("twice"))[1][0]
        bad = ((), (("bad", NUM, ONE),))
        self.assertTrue(is_form_of(one, ("form", (group, twice), form[2])))
        self.assertTrue(is_form_of(one, ("form", (twice, group), form[2])))
        for other in [("form", (), form[2]), ("form", (group, more), form[2]), ("form", (group, group), form[2]), ("form", (bad, group), form[2]),
                      ("form", (group,), ("call", form[2][1], ("number", 2, None, ()))), ("form", [group], form[2]), list(form),
                      ("form", (((), (("sq", NUM, ONE),)),), form[2]), ("form", (group,), ("told", form[2], NUM))]:
            self.assertIs(is_form_of(one, other), False, other)
        self.assertFalse(is_form_of(whole("sq(4)"), form))
        self.assertFalse(is_form_of(whole("1(2)"), ("form", (), ("call", ONE, ("number", 2, None, ())))))
        simple = whole("fn x -> x")
        self.assertTrue(is_form_of(simple, ("form", (), ("fn", "x", NUM, ("name", "x", None)))))
        self.assertFalse(is_form_of(simple, ("form", (), ("fn", "y", NUM, ("name", "y", None)))))
        book = Book("def broken = @none()\ndef one = 1")
        extra = (((), (("broken", NUM, ONE),)),)
        self.assertFalse(is_form_of(Whole(book, "1"), ("form", extra, ONE)))
        self.assertTrue(is_form_of(Whole(book, "1"), ("form", (((), (("one", NUM, ONE),)),), ONE)))
        self.assertTrue(is_filling(NUM, widest(Whole(book, "one"))))


if __name__ == "__main__":
    unittest.main()
