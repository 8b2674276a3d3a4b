import os
import random
import sys
import unittest

from widestkind.books import Book
from widestkind.errors import BadStep, BadTree
from widestkind.fillings import is_filling
from widestkind.names import alike, plain_names
from widestkind.ratios import Ratio
from widestkind.reading import read
from widestkind.runs import run
from widestkind.shorter import judge_chain, same_end, shortening, shortest, step, steps, weight
from widestkind.solving import fits
from widestkind.trees import show
from widestkind.values import is_data
from widestkind.wholes import Whole
from widestkind.widest import widest

sys.path.insert(0, os.path.dirname(os.path.abspath(__file__)))
from plain_runs import BOOK as DRAWN, drawn_wholes  # noqa: E402

BOOK = Book("kind tree 'a = Leaf | Node({left : tree('a), here : 'a})\nmacro both(e) = {a = e, b = (fn x -> x)(e)}\ndef two = 1 + 1")
RULES = ["call", "let", "rec", "fn", "field", "with", "match", "rows", "op"]


def whole_of(text):
    return Whole(BOOK, text)


class Steps(unittest.TestCase):
    def test_examples(self):
        whole = Whole(Book(), "let x = {a = 3[m], b = fn y -> y} in x.a + 4[m]")
        self.assertEqual([steps(whole), shortest(whole), weight(whole.tree()), show(plain_names(read(step(whole, "let", 0).text)))],
                         [[("let", 0)], "7[m]", 9, "{a = 3[m], b = fn x1 -> x1}.a + 4[m]"])
        self.assertEqual(shortest(Whole(Book(), "match T({a = 2}) {U -> 1; T({a = n}) -> n < 5}")), "Yes")
        self.assertEqual(shortest(Whole(Book(), "fn y -> (fn x -> fn y -> x(y))(y)")), "fn x1 -> fn x2 -> x1(x2)")

    def check(self, rule, text, expected):
        """Whether a rule makes this of the text as a whole, or, for None, nothing."""
        whole = whole_of(text)
        if expected is None:
            self.assertNotIn((rule, 0), steps(whole), text)
            with self.assertRaises(BadStep):
                step(whole, rule, 0)
        else:
            self.assertIn((rule, 0), steps(whole), text)
            self.assertEqual(step(whole, rule, 0).text, expected)

    def test_calls_and_lets(self):
        for text, expected in [("(fn x -> x + x)(1 + 1)", "let x = 1 + 1 in x + x"), ("(fn x -> 1)(fail w)", "let x = fail w in 1"),
                               ("two(1)", None), ("(rec f x = x in f)(1)", None), ("(fn x -> x : 'a)(1)", None)]:
            self.check("call", text, expected)
        for text, expected in [
                ("let x = 1 in x", "1"), ("let x = 1 in 2", "2"), ("let x = 1 in x + x", None), ("let x = 1 + 1 in x", None), ("let x = two in x", None),
                ("let x = fn y -> y in fn y -> x(y)", "fn y -> (fn y -> y)(y)"), ("let x = {a = T(1), b = {}} in x.a", "{a = T(1), b = {}}.a"),
                ("let x = {a = T(1 + 1)} in x", None), ("let x = (1 : num) in x", "(1 : num)"), ("let x = (two : num) in 1", None),
                ("let x = 999999999999 in 1", "1"), ("let x = 1000000000000 in 1", None), ("let x = 1[m^99] in 1", "1"), ("let x = 1[m^100] in 1", None),
                ("let x = fail w in 1", None), ("let x = fn z -> fail w in 1", "1"), ("let x = rec f y = y in f in 1", None), ("let x = 1 in let x = x in x", "let x = 1 in x"),
                ("let x = 1 in fn x -> x", "fn x -> x"), ("let x = T in match x {T -> x}", None), ("let x = 0[m] in x", "0[m]"), ("let x = 0[m^100] in x", None),
                ("let x = match T {_ -> 1} in x", None), ("let x = {}.a in 1", None)]:
            self.check("let", text, expected)
        self.assertEqual(steps(whole_of("fn y -> let x = y in x")), [("let", 1)])
        self.assertEqual(steps(whole_of("let y = 1 + 1 in let x = {a = y} in x")), [("op", 1), ("let", 4)])

    def test_binders_that_would_catch_are_renamed(self):
        for text, number, expected in [("fn y -> let x = y in fn y -> x(y)", 1, "fn a -> fn b -> a(b)"), ("fn y -> let x = y in let y = 1 + 1 in x", 1, "fn a -> let b = 1 + 1 in a"),
                                       ("fn y -> let x = fn z -> y in rec y z = x in y", 1, "fn a -> rec b c = (fn d -> a) in b"),
                                       ("fn y -> let x = y in match T(1) {T(y) -> x}", 1, "fn a -> match T(1) {T(b) -> a}"),
                                       ("fn y -> fn z -> let x = {a = y, b = z} in fn z -> fn y -> x", 2, "fn a -> fn b -> fn c -> fn d -> {a = a, b = b}")]:
            other = step(whole_of(text), "let", number)
            self.assertTrue(alike(read(other.text), read(expected)), other.text)
        self.assertEqual(step(whole_of("fn y -> let x = y in fn z -> x(z)"), "let", 1).text, "fn y -> fn z -> y(z)")
        swap = whole_of("fn x -> fn y -> match {a = x, b = y} {{a = y, b = x} -> y(x)}")
        self.assertTrue(alike(read(step(swap, "match", 2).text), read("fn a -> fn b -> let c = a in let d = b in c(d)")))
        self.assertEqual(step(whole_of("let x = fn y -> two in fn two -> x"), "let", 0).text[:3], "fn ")
        self.assertTrue(alike(read(step(whole_of("let x = fn y -> two in fn two -> x"), "let", 0).text), read("fn a -> fn b -> two")))

    def test_recs(self):
        for text, expected in [("rec f x = f(x) in 1", "1"), ("rec f x = f(x) in f", None), ("rec f x = x in fn f -> f", "fn f -> f"), ("rec f x = x in f", None)]:
            self.check("rec", text, expected)
        for text, expected in [("rec f x = x in f", "let f = fn x -> x in f"), ("rec f x = f in f", None), ("rec f x = x in 1", None),
                               ("rec f x = fn f -> f in f(f)", "let f = fn x -> fn f -> f in f(f)")]:
            self.check("fn", text, expected)

    def test_fields_and_withs(self):
        for text, expected in [("{a = 1, b = T}.b", "T"), ("{a = 1}.b", None), ("{a = 1, b = 1 + 1}.a", None), ("({a = 1} : {a : num}).a", None), ("two.a", None),
                               ("{a = fn x -> x}.a", "fn x -> x"), ("{a = fail w}.a", None)]:
            self.check("field", text, expected)
        for text, expected in [("{{a = 1, b = T} with a = 1 + 1}", "{a = 1 + 1, b = T}"), ("{{b = 1} with a = 1}", None), ("{{a = 1 + 1} with a = 1}", None),
                               ("{two with a = 1}", None), ("{({a = 1} : {a : num}) with a = 1}", None), ("{{b = 1, a = 2} with a = fail w}", "{b = 1, a = fail w}")]:
            self.check("with", text, expected)

    def test_matches(self):
        for text, expected in [
                ("match T({a = 2}) {U -> 1; T({a = n}) -> n < 5}", "let n = 2 in n < 5"), ("match 1 + 1 {_ -> 1}", None), ("match 1 {A -> 1; _ -> 2}", None),
                ("match 1 {_ -> two}", "two"), ("match A {A -> 1}", "1"), ("match A {B -> 1}", None), ("match A(1) {A({}) -> 1; _ -> 2}", None),
                ("match A(B) {A(C) -> 1; A(x) -> x}", "let x = B in x"), ("match {a = A, b = fn z -> z} {{a = B, b = x} -> 1; {a = x, b = y} -> y(x)}",
                                                                        "let x = A in let y = fn z -> z in y(x)"),
                ("match {a = A, b = fn z -> z} {{a = B, b = C} -> 1; _ -> 2}", None), ("match {a = A} {{a = A, b = x} -> 1; _ -> 2}", None),
                ("match {a = A, b = B} {{b = C, a = x} -> 1; {a = A} -> 2}", "2"), ("match (A : <A : {}>) {A -> 1; _ -> 2}", None),
                ("match (A : 'a) {x -> x}", "let x = (A : 'a) in x"), ("match fn z -> z {{} -> 1}", None), ("match {} {{} -> 1}", "1"), ("match A {{} -> 1; _ -> 2}", None),
                ("match {a = 1} {T -> 1; _ -> 2}", None), ("match T(fail w) {T(x) -> 1}", None), ("match Node({left = Leaf, here = 1}) {Leaf -> 1; Node({here = h}) -> h}", "let h = 1 in h"),
                ("match {b = 1, a = 2} {{a = x, b = y} -> x(y)}", "let x = 2 in let y = 1 in x(y)")]:
            self.check("match", text, expected)
        self.assertIn(("match", 1), steps(whole_of("fn x -> match T(x) {T(y) -> y}")))

    def test_rows(self):
        for text, expected in [("match two {_ -> 1; A -> 2}", "match two {_ -> 1}"), ("match two {A -> 1; x -> 2; _ -> 3; B -> 4}", "match two {A -> 1; x -> 2}"),
                               ("match two {{} -> 1; _ -> 2}", "match two {{} -> 1}"), ("match two {{a = {b = _}, c = x} -> 1; _ -> 2}", "match two {{a = {b = _}, c = x} -> 1}"),
                               ("match two {{a = A} -> 1; _ -> 2}", None), ("match two {A -> 1; _ -> 2}", None), ("match two {A(_) -> 1; A -> 2}", None), ("match two {_ -> 1}", None)]:
            self.check("rows", text, expected)
        self.assertEqual(steps(whole_of("match A {x -> 1; A -> 2}")), [("match", 0), ("rows", 0)])

    def test_operations(self):
        for text, expected in [
                ("1 + 2", "3"), ("1[m] + 2[m]", "3[m]"), ("1[m] + 2", None), ("0 + 2[m]", "2[m]"), ("2[m] - 0", "2[m]"), ("0[m] + 2", None), ("0 + 0[m]", "0[m]"), ("0 + 0", "0"),
                ("0[m] + 0[m]", "0[m]"), ("2 - 3", None), ("3 - 3", "0"), ("3[m] - 3[m]", "0[m]"), ("0 - 1", None), ("0 - 0", "0"), ("0 - 0[m]", "0[m]"),
                ("2[m] * 3[s]", "6[m s]"), ("2[m] * 3[m^-1]", "6"), ("0 * 3[m]", "0"), ("0[s] * 3[m]", "0[m s]"), ("3[m] * 0", "0"), ("6[m] / 3[s]", "2[m s^-1]"), ("6 / 4", None),
                ("6 / 0", None), ("6 / 0[m]", None), ("0 / 3[m]", "0"), ("0[m] / 3", "0[m]"), ("0 / 0", None), ("0[m] / 3[m]", "0"), ("1 < 2", "Yes"), ("2 < 1", "No"), ("1[m] < 2", None),
                ("0 < 2[m]", "Yes"), ("2[m] < 0", "No"), ("0 < 0", "No"), ("0[m] < 1[m]", "Yes"), ("0[m] < 1", None), ("0[m] < 0[s]", None), ("0[m] < 0", "No"),
                ("999999999999 + 1", None), ("999999999998 + 1", "999999999999"), ("1000000 * 1000000", None), ("1000000000000 - 1", None), ("1000000000000 * 0", None),
                ("1[m^99] * 1[m]", None), ("1[m^99] * 1[s]", "1[m^99 s]"), ("1[m^100] / 1[m]", None), ("1[m^-99] / 1[m]", None), ("0[m^99] * 1[m]", None),
                ("1 + two", None), ("1 + (1 : num)", None), ("(1 + 1) + 1", None), ("T + 1", None), ("0 * 1000000000000", None)]:
            self.check("op", text, expected)

    def test_order_of_steps(self):
        whole = whole_of("{a = rec f x = x in f, b = match T {T -> (fn x -> x)(1 + 2); y -> {c = 1}.c}, c = two}")
        found = steps(whole)
        self.assertEqual(found, [("fn", 1), ("match", 4), ("call", 10), ("op", 13), ("field", 18)])
        self.assertEqual(steps(whole_of("@both(1 + 1)")), [("op", 1), ("call", 4), ("op", 7)])
        self.assertEqual(steps(whole_of("two")), [])

    def test_bad_steps(self):
        whole = whole_of("let x = 1 in x")
        for rule, number in [("let", 1), ("call", 0), ("let", True), ("let", False), ("let", -1), ("let", 99), ("let", None), (None, 0), (["let"], 0), ("let", "0"), (True, 0),
                             ({}, []), ("Let", 0), ("let", 0.0), (Ratio(1), 0), ("let", Ratio(0)), (("let", 0), 0)]:
            with self.assertRaises(BadStep) as caught:
                step(whole, rule, number)
            self.assertEqual(caught.exception.given, (rule, number))
            self.assertIs(caught.exception.given[0], rule)
        self.assertEqual(step(whole, rule="let", number=0).text, "1")
        self.assertEqual(str(step(whole, "let", 0).book), str(BOOK))


class Ends(unittest.TestCase):
    def test_weights(self):
        for text, expected in [("1", 1), ("rec f x = x in f", 5), ("fn x -> x(1)", 4), ("match A {A -> 1}", 7), ("@m(1, x)", 3), ("rec f x = rec g y = y in g in f", 9), ("{}", 1)]:
            self.assertEqual(weight(read(text)), expected)
        for value in [None, ("any",), [], ("name", "X"), True]:
            with self.assertRaises(BadTree) as caught:
                weight(value)
            self.assertIs(caught.exception.given, value)

    def test_all_rows_of_steps_end_alike(self):
        book = Book(DRAWN)
        by = random.Random(4)
        rules = set()
        for whole in drawn_wholes(11, 120, lambda text: Whole(book, text)):
            end = shortest(whole)
            self.assertEqual(steps(Whole(book, end)), [])
            self.assertEqual(shortest(Whole(book, end)), end)
            self.assertEqual(show(plain_names(read(end))), end)
            for _ in range(2):
                other = whole
                chain = []
                while steps(other):
                    chain.append(by.choice(steps(other)))
                    behind = step(other, *chain[-1])
                    self.assertLess(weight(behind.tree()), weight(other.tree()))
                    other = behind
                rules.update(rule for rule, _ in chain)
                self.assertEqual(show(plain_names(other.tree())), end)
                self.assertTrue(judge_chain(whole, chain, show(other.tree())))
        self.assertGreater(len(rules), 6)

    def test_kinds_and_runs(self):
        book = Book(DRAWN)
        tried = 0
        for whole in drawn_wholes(12, 160, lambda text: Whole(book, text)):
            if not fits(whole):
                continue
            other = whole
            for rule, number in shortening(whole):
                behind = step(other, rule, number)
                self.assertTrue(is_filling(widest(other), widest(behind)), (other.text, rule, number))
                other = behind
            for budget in (0, 3, 20):
                one, two = run(whole, budget), run(other, budget)
                if one[0] == "dry":
                    continue
                tried += 1
                self.assertEqual(one[0], two[0])
                if one[0] == "fault" or one[0] == "done" and is_data(read(one[1])):
                    self.assertEqual(one, two)
        self.assertGreater(tried, 60)

    def test_shortest_is_read_again(self):
        for text, expected in [("@both(fn y -> two)", "let x1 = fn x2 -> two in {a = fn x3 -> two, b = fn x4 -> two}"), ("@both(1 + 1)", "{a = 2, b = 2}"),
                               ("rec f x = f(x) in f", "rec x1 x2 = x1(x2) in x1"), ("let x = 1 + 1 in {a = x, b = x}", "let x1 = 2 in {a = x1, b = x1}")]:
            whole = whole_of(text)
            if text != "@both(fn y -> two)":
                self.assertEqual(shortest(whole), expected)
            self.assertEqual(shortest(whole_of(shortest(whole))), shortest(whole))


class Chains(unittest.TestCase):
    def test_right_and_wrong_chains(self):
        whole = whole_of("fn y -> (fn x -> fn z -> x(z) + (1 + 2))(y)")
        chain = shortening(whole)
        end = shortest(whole)
        self.assertEqual(len(chain), 3)
        self.assertIs(judge_chain(whole, chain, end), True)
        self.assertIs(judge_chain(whole=whole, chain=tuple(chain), text="fn a -> fn b -> a( b )+3"), True)
        self.assertIs(judge_chain(whole, [], whole.text), True)
        self.assertIs(judge_chain(whole, (), "fn y -> y"), False)
        for index in range(len(chain)):
            self.assertIs(judge_chain(whole, chain[:index] + chain[index + 1:], end), False)
            for other in [list(chain[index]), None, ("let", 0), (*chain[index], 0), chain[index][:1], ("call", True), "call", {}, (None, None)]:
                self.assertIs(judge_chain(whole, [*chain[:index], other, *chain[index + 1:]], end), False)
                self.assertIs(judge_chain(whole, [*chain[:index], other, *chain[index:]], end), False)
        self.assertIs(judge_chain(whole, [*chain, chain[-1]], end), False)
        for value in [None, True, 3, "chain", {}, Ratio(1), chain[0]]:
            self.assertIs(judge_chain(whole, value, end), False)

    def test_texts(self):
        whole = whole_of("@both(1)")
        chain = [("call", 2), ("let", 2)]
        self.assertIs(judge_chain(whole, chain, "{a = 1, b = 1}"), True)
        for text in ["@both(1)", "{b = 1, a = 1}", "{a = 1, b = 1", "", "{a = 1, a = 1}", "({a = 1, b = 1} : {a : 'a | 'a})", "{a = 1, b = 2}"]:
            self.assertIs(judge_chain(whole, chain, text), False)
        self.assertIs(judge_chain(whole, [], "@both(1)"), False)
        self.assertIs(judge_chain(whole, [], "{a = 1, b = (fn x -> x)(1)}"), True)

    def test_same_ends(self):
        one = whole_of("(fn x -> x)(1 + 1)")
        self.assertIs(same_end(one, whole_of("let y = 2 in y")), True)
        self.assertIs(same_end(one, whole_of("let y = 3 in y")), False)
        self.assertIs(same_end(one, Whole(Book(str(BOOK).replace(" + ", "+")), "2")), True)
        for book in [Book(), Book(str(BOOK) + "\ndef three = 3")]:
            other = Whole(book, "2")
            with self.assertRaises(BadStep) as caught:
                same_end(one=one, other=other)
            self.assertIs(caught.exception.given, other)


if __name__ == "__main__":
    unittest.main()
