import os
import sys
import unittest

from widestkind.books import Book
from widestkind.cases import leaks
from widestkind.errors import BadBudget, BadUnits, TooMany
from widestkind.fillings import is_filling
from widestkind.ratios import Ratio
from widestkind.reading import read
from widestkind.runs import in_units, run, states
from widestkind.solving import fits
from widestkind.trees import show
from widestkind.values import is_data, is_value, value_text
from widestkind.wholes import Whole
from widestkind.widest import widest

sys.path.insert(0, os.path.dirname(os.path.abspath(__file__)))
from plain_runs import BOOK as DRAWN, Plain, data_tree, drawn_wholes  # noqa: E402

BOOK = Book("kind tree 'a = Leaf | Node({left : tree('a), here : 'a})\nmacro both(e) = {a = e, b = e(1)}\nmacro hide($x, e) = fn $x -> e\n"
            "macro get(e) = e.gone\ndef twice = fn f -> fn x -> f(f(x))\ndef two = 1 + 1\ndef bad = {a = 1}(2)\ndef loop = loop\n"
            "def spin = rec f x = f(x) in f\ndef odd = match A {B -> 1}\ndef fact = rec f n = match n < 1 {Yes -> 1; No -> n * f(n - 1)} in f")


def end(text, budget=100):
    return run(Whole(BOOK, text), budget)


def all_states(text, budget=100):
    return states(Whole(BOOK, text), budget)


class Runs(unittest.TestCase):
    def test_examples(self):
        book = Book("def twice = fn f -> fn x -> f(f(x))")
        whole = Whole(book, "twice(fn n -> n + 1[m])(2[m])")
        self.assertEqual([run(whole, 5), run(whole, 4), states(whole, 9)[1]],
                         [("done", "4[m]"), ("dry",), "(fn x1 -> fn x2 -> x1(x1(x2)))(fn x3 -> x3 + 1[m])(2[m])"])
        self.assertEqual(states(whole, 9)[3:],
                         ["(fn x1 -> x1 + 1[m])((fn x2 -> x2 + 1[m])(2[m]))", "(fn x1 -> x1 + 1[m])(2[m] + 1[m])",
                          "(fn x1 -> x1 + 1[m])(3[m])", "3[m] + 1[m]", "4[m]"])
        self.assertEqual([end(text, 9) for text in ["2[m] / 6 - 1[m]", "1[m] + 1[s]", "match A { B -> 1 }", "{a = 1 / 0, b = fail late}"]],
                         [("done", "0 - 2[m] / 3"), ("stuck", ("", 0)), ("missed", ("", 0)), ("fault", "zero")])
        self.assertEqual(run(in_units(whole, {"m": Ratio(1, 2)}), 5), ("done", "2[m]"))

    def test_what_is_worked_out_first(self):
        for text, first, second in [
                ("(fail a)(fail b)", "a", "b"), ("1(fail b)", "b", None), ("let x = fail a in fail b", "a", "b"), ("{b = fail a, a = fail b}", "a", "b"),
                ("{{a = fail a} with a = fail b}", "a", "b"), ("{1 with a = fail b}", "b", None), ("(fail a).b", "a", None), ("T(fail a)", "a", None),
                ("(fail a : num)", "a", None), ("match fail a {_ -> fail b}", "a", "b"), ("fail a + fail b", "a", "b"), ("T + fail b", "b", None),
                ("{a = 1(2), b = fail a}.c", None, None), ("(1 + T)(fail b)", None, None), ("1 - fail b", "b", None), ("0 - fail b", "b", None)]:
            if first is None:
                self.assertEqual(end(text)[0], "stuck", text)
            else:
                self.assertEqual(end(text), ("fault", first), text)
            if second is not None:
                other = end(text.replace("fail " + first, "{a = 1}", 1))
                self.assertTrue(other == ("fault", second), (text, other))
        self.assertEqual(end("fn x -> fail a"), ("done", "fn x1 -> fail a"))
        self.assertEqual(end("rec f x = fail a in 1"), ("done", "1"))
        self.assertEqual(end("match A {B -> fail a; _ -> 2}"), ("done", "2"))

    def test_each_step(self):
        for text, expected in [
                ("two", ["two", "1 + 1", "2"]), ("(fn x -> {a = x, b = x})(T)", ["(fn x1 -> {a = x1, b = x1})(T)", "{a = T, b = T}"]),
                ("let x = 1 + 1 in x * x", ["let x1 = 1 + 1 in x1 * x1", "let x1 = 2 in x1 * x1", "2 * 2", "4"]),
                ("rec f x = x in f(3)", ["rec x1 x2 = x2 in x1(3)", "(rec x1 x2 = x2 in x1)(3)", "3"]),
                ("{{b = 1, a = 2} with b = T}", ["{{b = 1, a = 2} with b = T}", "{b = T, a = 2}"]), ("{b = 1, a = 2}.a", ["{b = 1, a = 2}.a", "2"]),
                ("(1 + 1 : num)", ["(1 + 1 : num)", "(2 : num)", "2"]),
                ("match {a = T(1), b = U} {{a = U} -> 1; {c = x} -> 2; {a = T(x), b = y} -> {p = y, q = x}}",
                 ["match {a = T(1), b = U} {{a = U} -> 1; {c = x1} -> 2; {a = T(x2), b = x3} -> {p = x3, q = x2}}", "{p = U, q = 1}"]),
                ("0[m] + 2[m]", ["0[m] + 2[m]", "0 + 2[m]", "2[m]"]), ("1 < 2", ["1 < 2", "Yes"]), ("A(4 / 2)", ["A(4 / 2)", "A(2)"])]:
            self.assertEqual(all_states(text), expected)
            self.assertEqual(end(text)[0], "done")

    def test_numbers(self):
        for text, expected in [
                ("2[m] * 3[s^-1]", "6[m s^-1]"), ("6[m] / 4[m]", "3 / 2"), ("1[m] - 1[m]", "0"), ("0 * 3[m]", "0"), ("0 / 3[m]", "0"), ("1[m] + 0", "1[m]"),
                ("0 + 0", "0"), ("0[m] + 1[s]", "1[s]"), ("1 / 3 + 1 / 6", "1 / 2"), ("1 - 3", "0 - 2"), ("0 - (1 - 3)", "2"), ("(0 - 1) / (0 - 2)", "1 / 2"),
                ("1 / (0 - 2)", "0 - 1 / 2"), ("0 - 1 / 2 < 0", "Yes"), ("0 < 0[m]", "No"), ("1[m] < 0", "No"), ("0 < 1[s]", "Yes"), ("2 / 3 < 3 / 4", "Yes"),
                ("3 / 4 < 2 / 3", "No"), ("2[m] * 0[s^99]", "0"), ("0[m^200]", "0"), ("999999999998 + 1", "999999999999"),
                ("1[m^99] * 1[s]", "1[m^99 s]"), ("2 / 4", "1 / 2"), ("4 / 2", "2"), ("0 - 0", "0"), ("1 / 2 * 2[m]", "1[m]"), ("0[m]", "0")]:
            self.assertEqual(end(text), ("done", expected), text)
        for text in ["999999999999 + 1", "1000000000000", "{a = 1000000000000}", "1[m^100]", "1[m^-100]", "1[m^99] * 1[m]", "1 / 1[m^99] / 1[m]",
                     "1 / 999999999999 / 2", "1 / 1000000000000", "1000000 * 1000000", "0 - 999999999999 - 1", "T(1000000000000)", "1[m^100] - 1[m^100]"]:
            self.assertEqual(end(text), ("fault", "great"), text)
        for text in ["1 / 0", "1[m] / 0[s]", "0 / 0", "1 / (1 - 1)"]:
            self.assertEqual(end(text), ("fault", "zero"), text)
        for text in ["1 + 1[m]", "1[m] - 1[s]", "1 < 1[m]", "T + 1", "1 * {}", "1 < (fn x -> x)", "T / 0", "(fn x -> x) + T", "T < T"]:
            self.assertEqual(end(text), ("stuck", ("", 0)), text)
        self.assertEqual(end("fn x -> 1000000000000"), ("done", "fn x1 -> 1000000000000"))
        self.assertEqual(end("match A {A -> 1; B -> 1000000000000}"), ("done", "1"))

    def test_stuck_and_missed(self):
        for text, place in [("1(2)", ("", 0)), ("{a = T(1)}.a(2)", ("", 0)), ("{}.a", ("", 0)), ("1.a", ("", 0)), ("{T with a = 1}", ("", 0)),
                            ("{{b = 1} with a = 1}", ("", 0)), ("{a = {b = 1}.c}", ("", 1)), ("bad", ("bad", 0)), ("@get({a = 1})", ("@get", 0)),
                            ("let f = fn x -> x(1) in f(T)", ("", 2)), ("twice(T)(1)", ("twice", 4)), ("@both(1)", ("@both", 2)),
                            ("@hide(x, x(1))(2)", ("", 3)), ("(fn x -> x.a)({b = fn y -> y})", ("", 2)), ("1 + {a = 2}.b", ("", 2))]:
            self.assertEqual(end(text), ("stuck", place), text)
            self.assertEqual(end(text, 50), ("stuck", place))
        for text, place in [("match A {B -> 1}", ("", 0)), ("match 1 {A -> 1; {} -> 2}", ("", 0)), ("match {a = 1} {{b = x} -> 1}", ("", 0)),
                            ("match A(1) {A(B) -> 1; A({}) -> 2}", ("", 0)), ("odd", ("odd", 0)), ("{a = fn x -> match x {A -> 1}}.a(B)", ("", 4)),
                            ("match 0 - 1 {A -> 1}", ("", 0)), ("match fn x -> x {{} -> 1}", ("", 0))]:
            self.assertEqual(end(text), ("missed", place), text)
        self.assertEqual(end("1(2)", 0), ("stuck", ("", 0)))

    def test_calls_are_counted(self):
        for text, calls in [("two", 1), ("1 + 1", 0), ("(fn x -> x)(1)", 1), ("rec f x = x in f(1)", 1), ("twice(fn x -> x)(1)", 5), ("two + two", 2),
                            ("fact(3)", 5), ("let x = two in x", 1), ("fn x -> two", 0), ("{a = two}.a", 1), ("match two {x -> x}", 1)]:
            self.assertEqual(end(text, calls)[0], "done", text)
            if calls:
                self.assertEqual(end(text, calls - 1), ("dry",), text)
        self.assertEqual([end("loop", budget) for budget in (0, 1, 100)], [("dry",)] * 3)
        self.assertEqual(end("spin(1)", 100), ("dry",))
        self.assertEqual(end("fact(5)"), ("done", "120"))
        self.assertEqual(len(all_states("loop", 7)), 8)

    def test_names_are_not_caught(self):
        self.assertEqual(end("(fn y -> fn x -> y)(fn z -> two)"), ("done", "fn x1 -> fn x2 -> two"))
        self.assertEqual(end("(fn y -> fn two -> y)(fn z -> two)"), ("done", "fn x1 -> fn x2 -> two"))
        self.assertEqual(end("(fn f -> f(fn x -> f(x)))(fn y -> fn x -> y)"), ("done", "fn x1 -> fn x2 -> (fn x3 -> fn x4 -> x3)(x2)"))
        self.assertEqual(end("let k = fn x -> fn y -> x in k(k)(1)(2)"), ("done", "fn x1 -> 2"))
        self.assertEqual(end("twice(twice)(fn x -> x + 1)(0)"), ("done", "4"))

    def test_entries_are_put_in_order_in_values(self):
        text = "{b = {d = 1, c = 2}, a = T({f = 1, e = fn x -> {b = 1, a = 2}})}"
        self.assertEqual(end(text), ("done", "{a = T({e = fn x1 -> {b = 1, a = 2}, f = 1}), b = {c = 2, d = 1}}"))
        self.assertEqual(all_states(text), ["{b = {d = 1, c = 2}, a = T({f = 1, e = fn x1 -> {b = 1, a = 2}})}"])
        self.assertEqual(end("{b = rec f x = {b = f, a = 1} in f, a = 1}"), ("done", "{a = 1, b = rec x1 x2 = {b = x1, a = 1} in x1}"))
        self.assertEqual(end("{b = fn x -> x, a = fn x -> x}"), ("done", "{a = fn x1 -> x1, b = fn x2 -> x2}"))

    def test_bad_budgets(self):
        whole = Whole(BOOK, "1")
        for budget in [-1, 101, True, False, None, "5", 5.5, [], Ratio(5), (1,), 10 ** 20]:
            for ask in [run, states]:
                with self.assertRaises(BadBudget) as caught:
                    ask(whole, budget)
                self.assertIs(caught.exception.given, budget)
        self.assertEqual([run(whole, 0), run(whole, budget=100), states(whole, 0)], [("done", "1"), ("done", "1"), ["1"]])

    def test_against_plain_runs(self):
        book = Book(DRAWN)
        seen = {}
        for whole in drawn_wholes(5, 250, lambda text: Whole(book, text)):
            for budget in (0, 2, 9, 30):
                told = run(whole, budget)
                plain = Plain(whole, budget).ends()
                seen[plain[0]] = seen.get(plain[0], 0) + 1
                if plain[0] != "done":
                    self.assertEqual(told, plain, (whole.text, budget))
                    continue
                self.assertEqual(told[0], "done", whole.text)
                tree = data_tree(plain[1])
                if tree is not None:
                    self.assertEqual(told[1], show(tree))
        self.assertEqual(set(seen), {"done", "stuck", "missed", "dry", "fault"})

    def test_states_go_on_as_the_run(self):
        book = Book(DRAWN)
        for whole in drawn_wholes(6, 80, lambda text: Whole(book, text)):
            told = run(whole, 6)
            rows = states(whole, 6)
            self.assertEqual(states(Whole(book, rows[0]), 6), rows)
            left = 6
            for index, text in enumerate(rows):
                other = Whole(book, text)
                while states(other, left) != rows[index:]:
                    left -= 1
                    self.assertGreaterEqual(left, 0)
                again = run(other, left)
                self.assertEqual(again[0], told[0])
                if told[0] in ("done", "fault", "dry"):
                    self.assertEqual(again, told)
            if told[0] == "done":
                self.assertTrue(is_value(read(rows[-1])))
                self.assertEqual(value_text(read(rows[-1])), rows[-1])


class Kinds(unittest.TestCase):
    def test_texts_with_kinds_are_never_stuck(self):
        book = Book(DRAWN)
        tried = 0
        for whole in drawn_wholes(7, 300, lambda text: Whole(book, text)):
            if not fits(whole):
                continue
            tried += 1
            told = run(whole, 12)
            self.assertNotEqual(told[0], "stuck", whole.text)
            if told[0] == "missed":
                self.assertIn(told[1], leaks(whole))
            last = widest(whole)
            for text in states(whole, 12)[:15]:
                kind = widest(Whole(book, text))
                self.assertTrue(is_filling(last, kind), (whole.text, text))
                last = kind
        self.assertGreater(tried, 60)

    def test_macros_and_their_expansions_run_alike(self):
        book = Book(DRAWN)
        for whole in drawn_wholes(8, 60, lambda text: Whole(book, text)):
            other = Whole(book, show(whole.tree()))
            self.assertEqual(states(whole, 8), states(other, 8))


class Units(unittest.TestCase):
    def test_texts_and_lines(self):
        book = Book("macro add(e) = e + 3[m]\ndef one = 1[m]\ndef two = 2 + 1 - 1[s]\nkind day = Sun")
        whole = Whole(book, "@add( one ) * (2[m^-1]) + (4 / 2[s])")
        other = in_units(whole, {"m": 100, "s": Ratio(1, 60)})
        self.assertEqual(other.text, "@add(one) * (1[m^-1] / 50) + 4 / (1[s] / 30)")
        self.assertEqual(str(other.book), "macro add(e) = e + 300[m]\ndef one = 100[m]\ndef two = 2 + 1 - 1[s] / 60\nkind day = Sun")
        for units in [{}, {"m": 1, "s": 1}, {"kg": 5}, {"m": Ratio(2, 2)}]:
            same = in_units(whole, units=units)
            self.assertEqual([same.text, str(same.book)], [whole.text, str(book)])
        only = in_units(whole, {"s": 60})
        self.assertEqual([only.text, str(only.book).split("\n")[:2]], ["@add(one) * 2[m^-1] + 4 / 120[s]", str(book).split("\n")[:2]])

    def test_outermost_forms_count_as_one(self):
        for text, units, expected in [
                ("0 - 2[m] / 3", {"m": 3}, "0 - 2[m]"), ("2[m] / 3", {"m": 6}, "4[m]"), ("2[m] / 4", {"m": 2}, "4[m] / 4"), ("0 - 2[m]", {"m": Ratio(1, 2)}, "0 - 1[m]"),
                ("f(2[m]).a", {"m": Ratio(1, 3)}, "f(2[m] / 3).a"), ("2[m] * 3", {"m": Ratio(1, 3)}, "2[m] / 3 * 3"), ("3 * 2[m]", {"m": Ratio(1, 3)}, "3 * (2[m] / 3)"),
                ("1[m^2 s^-1]", {"m": 10, "s": 4}, "25[m^2 s^-1]"), ("0[m]+0", {"m": 10}, None), ("{a=1[m], b=2}", {"m": 2}, "{a = 2[m], b = 2}"),
                ("match 1[m] {x -> x - 3[m]}", {"m": 2}, "match 2[m] {x -> x - 6[m]}"), ("1[m^99]", {"m": 1}, "1[m^99]"), ("fn x -> (x : num[m])", {"m": 2}, None),
                ("0 - 2[m] - 3[m]", {"m": 2}, "0 - 4[m] - 6[m]"), ("0 - (0 - 2[m])", {"m": 2}, "0 - (0 - 4[m])"), ("1[m^100] + 1000000000000[m]", {"m": 2}, None)]:
            whole = Whole(Book("def f = fn x -> {a = x}"), text)
            self.assertEqual(in_units(whole, units).text, text if expected is None else expected)

    def test_bad_units(self):
        whole = Whole(Book(), "1[m]")
        for units in [None, [], True, 3, "m", {"m": 0}, {"m": -1}, {"m": Ratio(-1, 2)}, {"m": Ratio(0)}, {"m": True}, {"m": "2"}, {"m": None}, {"M": 2}, {"": 2},
                      {"'m": 2}, {1: 2}, {"fn": 2}, {"m1000": 2}, {("m",): 2}, {"m": 2, "s": 0}, {None: 1}, {"m": [2]}]:
            with self.assertRaises(BadUnits) as caught:
                in_units(whole, units)
            self.assertIs(caught.exception.given, units)
        self.assertEqual(in_units(whole, {"m": 10 ** 11, "s12": Ratio(1, 10 ** 29)}).text, "100000000000[m]")

    def test_too_many(self):
        book = Book("def one = {a = 1, b = 0 - 1 / 2, c = 5[m]}\nmacro add(e) = e + 30[s]")
        whole = Whole(book, "{a = 2[s], b = 1 / 2, c = 9[m] * 2}")
        for units, count in [({"s": 10 ** 12}, 0), ({"m": 10 ** 12}, 2), ({"m": Ratio(1, 10 ** 12 - 1)}, None), ({"s": 10 ** 11}, 7), ({"m": 10 ** 11 * 2}, 2),
                             ({"m": 10 ** 12 // 9}, None), ({"s": Ratio(1, 10 ** 13)}, 0), ({"s": Ratio(1, 10 ** 12)}, None), ({"m": 10 ** 12 // 9 + 1}, 2)]:
            if count is None:
                in_units(whole, units)
                continue
            with self.assertRaises(TooMany) as caught:
                in_units(whole, units)
            self.assertEqual(caught.exception.count, count, units)

    def test_runs_in_other_units(self):
        book = Book(DRAWN)
        tried = 0
        for whole in drawn_wholes(9, 250, lambda text: Whole(book, text)):
            if not fits(whole):
                continue
            for units in [{"m": 100, "s": Ratio(1, 60)}, {"m": Ratio(3, 7)}]:
                other = in_units(whole, units)
                self.assertEqual(widest(other), widest(whole))
                one, two = run(whole, 9), run(other, 9)
                if ("fault", "great") in (one, two):
                    continue
                self.assertEqual(one[0], two[0])
                if one[0] == "fault":
                    self.assertEqual(one, two)
                if one[0] == "done" and is_data(read(one[1])):
                    tried += 1
                    self.assertEqual(in_units(Whole(Book(), one[1]), units).text, two[1])
        self.assertGreater(tried, 50)


if __name__ == "__main__":
    unittest.main()
