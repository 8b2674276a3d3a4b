import unittest

from widestkind.errors import BadTree
from widestkind.names import plain_names
from widestkind.ratios import Ratio
from widestkind.reading import read
from widestkind.trees import show
from widestkind.values import is_data, is_value, value_text


class NumberForms(unittest.TestCase):
    def test_forms(self):
        for text in ["0", "1", "999999999999", "2[m]", "2[m^99 s^-99]", "1 / 2", "2[m] / 3", "999999999999[m] / 999999999998", "0 - 1",
                     "0 - 2[m] / 3", "0 - 2[m]", "2 / 999999999999"]:
            self.assertIs(is_value(read(text)), True, text)
        for text in ["1000000000000", "2[m^100]", "2[m^-100]", "0[m]", "2 / 1", "2 / 4", "3 / 3", "2[m] / 3[s]", "0 / 3", "0 - 0", "0[m] - 1",
                     "0 - (0 - 1)", "1 - 2", "0 - 1000000000000", "7 / 999999999999", "1 / 1000000000000", "1000000000000 / 7", "1 + 2", "2 * 3", "1 < 2", "0 - 2 / 4",
                     "0 - 1 - 2", "(0 - 1) / 2", "1 / (0 - 2)", "0 + 1", "0 - 0[m]", "1[m^100] / 3", "0 / 1", "2 / 0", "0 - T", "T / 2"]:
            self.assertIs(is_value(read(text)), False, text)


class Values(unittest.TestCase):
    def test_each_form(self):
        for text in ["{}", "{b = 1, a = {c = 0 - 1}}", "A", "A(1 / 2)", "fn x -> x(1 + 2)", "fn x -> two", "rec f x = f(x) in f", "{a = rec f x = two in f}",
                     "A(fn x -> fail w)", "fn x -> match x {A -> 1}"]:
            self.assertIs(is_value(read(text)), True, text)
        for text in ["two", "x1", "fn x -> y1", "{a = fn x -> f2(x)}", "f(1)", "let x = 1 in x", "rec f x = f(x) in f(1)", "rec f x = f in {a = f}",
                     "rec f x = f(x) in g", "{a = 1 + 2}", "A(1 + 2)", "{a = 1}.a", "{{a = 1} with a = 2}", "(1 : num)", "fail w", "match A {A -> 1}",
                     "@m()", "fn x -> @m(x)", "{a = fn x -> {b = @m()}}", "rec f x = @m() in f"]:
            self.assertIs(is_value(read(text)), False, text)
        for value in [None, True, 3, "1", [], (), ("number", True, None), ["number", 1, None], ("number", 1, ()), ("number", -1, None), Ratio(1), {},
                      ("record", [("a", ("number", 1, None))]), ("tag", "A", ["record", ()]), ("fn", "x", None), ("op", "/", 1, 2), ("any",)]:
            self.assertIs(is_value(value), False, value)

    def test_texts(self):
        for text, expected in [("fn a -> a", "fn x1 -> x1"), ("{b = rec f x = f(x) in f, a = 1 / 2}", "{b = rec x1 x2 = x1(x2) in x1, a = 1 / 2}"),
                               ("0 - 2[m] / 3", "0 - 2[m] / 3"), ("A({})", "A"), ("fn x -> two(x)", "fn x1 -> two(x1)")]:
            self.assertEqual(value_text(read(text)), expected)
            self.assertEqual(value_text(tree=read(text)), show(plain_names(read(text))))
        for value in [None, read("1 + 2"), ("number", 0, (("m", 1),)), [], True, read("x1"), read("fn x -> @m()"), ("number", 1, ())]:
            with self.assertRaises(BadTree) as caught:
                value_text(value)
            self.assertIs(caught.exception.given, value)

    def test_data(self):
        for text, expected in [("1", True), ("0 - 2[m] / 3", True), ("{a = A(1), b = {}}", True), ("A", True), ("fn x -> x", False),
                               ("{a = A(fn x -> x)}", False), ("rec f x = x in f", False), ("{a = 1, b = rec f x = x in f}", False)]:
            self.assertIs(is_data(read(text)), expected)
            self.assertTrue(is_value(read(text)))


if __name__ == "__main__":
    unittest.main()
