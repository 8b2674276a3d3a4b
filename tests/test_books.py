import unittest

from widestkind.books import Book, is_empty
from widestkind.errors import BadLine, BadMacro, BadName, NoSuch, Twice, Unknown
from widestkind.expanding import expanded
from widestkind.kinds import read_kind
from widestkind.names import alike, binders, free, plain_names
from widestkind.reading import read
from widestkind.trees import is_tree, show

SWAP = ("macro swap($x, e) = fn y -> let $x = y in e(y)\nkind day = Sun | Rain({cm : num[cm]})\n"
        "def one = two\ndef two = one + 1")
TREE = "kind tree 'a = Leaf | Node({left : tree('a), right : tree('a)})"


class BookCase(unittest.TestCase):
    def assert_raises(self, error, field, text):
        with self.assertRaises(type(error)) as caught:
            Book(text)
        self.assertIs(type(caught.exception), type(error), text)
        self.assertEqual(getattr(caught.exception, field), getattr(error, field), text)

    def bad_line(self, text, number=1):
        self.assert_raises(BadLine(number), "number", text)

    def named(self, error, text):
        self.assert_raises(error, "name", text)


class Lines(BookCase):
    def test_examples(self):
        book = Book(SWAP)
        tree, origins = expanded(book, read("fn y -> @swap(x, y(x))"))
        self.assertEqual(
            [alike(tree, read("fn y -> fn z -> let x = z in y(x)(z)")), origins[:3], origins[-1], book.groups(),
             book.kind_of("Rain")[0]],
            [True, [("", 0), ("@swap", 0), ("@swap", 1)], ("@swap", 5), [["one", "two"]], "day"])
        self.assertEqual(
            [binders(read("fn x -> f(x)")), show(plain_names(read("fn a -> rec f x = f(a) in f"))),
             free(read("fn x -> f(x)"))], [[None, None, None, 0], "fn x1 -> rec x2 x3 = x2(x1) in x2", ["f"]])
        with self.assertRaises(BadMacro) as caught:
            expanded(Book(), read("@swap(x, 1)"))
        self.assertEqual(caught.exception.name, "swap")

    def test_text_of_books(self):
        lines = [TREE, "macro if(c, a, b) = match c {Yes -> a; No -> b}", "def two = 1 + 1"]
        self.assertEqual(str(Book("\n".join(lines))), "\n".join(lines))
        wide = ("  kind   tree  'a=Leaf ({ })|Node( ({right:tree('a),left:(tree('a))}) ) \n"
                "macro if ( c ,a,b)=(match c{Yes({})->a;No->(b)})\n def two=((1)+1)")
        self.assertEqual(str(Book(wide)), "\n".join(lines))
        self.assertEqual(Book(wide), Book("\n".join(lines)))
        self.assertEqual(Book(str(Book(wide))), Book(wide))
        self.assertEqual([str(Book()), str(Book("")), Book() == Book(""), Book().kinds()], ["", "", True, []])
        self.assertNotEqual(Book("def a = 1"), Book("def a = 2"))
        self.assertNotEqual(Book("def a = 1\ndef b = 1"), Book("def b = 1\ndef a = 1"))
        self.assertFalse(Book("def a = 1") == "def a = 1")
        more = ["kind pair 'a 'b 'c1 = P({a : 'a, b : 'b -> 'c1}) | Q | R(num[m s^-1]) | V(<A : 'a, Q : {}>)",
                "macro none() = 3[m]", "macro all($x, $y, f, g) = rec $x $y = f in match g {A({a = $y, b = $x}) -> $x}",
                "macro use($a, a) = @all($a, b, $a, (a : 'x -> own(num)))", "def again = again(other)"]
        self.assertEqual(str(Book("\n".join(more))), "\n".join(more))
        self.assertEqual(Book(text="def a = 1"), Book("def a=1"))

    def test_kind_lines_that_are_wrong(self):
        for line in [" ", "\n", "kind", "kind a", "kind a =", "kind a = ", "kind a1 = A", "kind a = a", "kind a = A |",
                     "kind a 'a 'b 'c 'd = A", "kind record = A", "kind variant = A", "kind a = Yes", "kind a = A | No",
                     "kind a = A()", "kind a = A(num) B", "kind a = A(num[m m])", "kind a = A({a : num, a : num})",
                     "kind a = A(<B : num, B : num>)", "kind a 'a = A('a -> num['a])", "kind a 'r = A({b : num | 'r} -> 'r)",
                     "kind fn = A", "kind A = A", "kind a = 'a", "kind a 'fn = A", "kind a = A({a = num})", "kinda = A",
                     "kind a $x = A", "kind a (b) = A", "kind a = A ? B", "tree = A", "macro", "= 1", "fn x -> x", "1"]:
            self.bad_line(line)
        self.bad_line("def a = 1\n", 2)
        self.bad_line("\ndef a = 1")
        self.bad_line("def a = 1\n\ndef b = 1", 2)

    def test_macro_and_definition_lines_that_are_wrong(self):
        for line in ["macro m = 1", "macro m( = 1", "macro m(a b) = 1", "macro m(a,) = 1", "macro m(1) = 1",
                     "macro m('a) = 1", "macro m(a, b, c, d, e) = 1", "macro m1() = 1", "macro m(let) = 1",
                     "macro m() = ", "macro m() = 1 1", "macro m() = {a = 1, a = 2}", "macro m($x) = match 1 {{a = $x, b = $x} -> 1}",
                     "macro m($x) = rec $x $x = 1 in 1", "macro m($x) = {$x = 1}", "macro m($x) = 1.$x",
                     "macro m($x) = fail $x", "macro m($x) = 1[$x]", "macro m($x) = @$x()", "macro m($) = 1", "macro $m() = 1",
                     "macro m($fn) = 1", "macro m() = (1 : {a : 'a | 'a})", "macro @m() = 1", "macro m() = 3[m m]",
                     "def a", "def a =", "def a1 = 1", "def $a = 1", "def a = $a", "def a = fn $x -> 1", "def a(x) = 1",
                     "def a = {a = 1, a = 2}", "def a = rec f f = 1 in 1", "def a = (1 : num['a] -> 'a)", "def let = 1",
                     "def a = match 1 {{a = x, b = x} -> 1}", "def a = 1 def b = 1", "def a = f(", "def a = #", "Def a = 1"]:
            self.bad_line(line)

    def test_words_that_stand_twice(self):
        self.named(Twice("a"), "def a = 1\ndef b = 1\ndef a = 2")
        self.named(Twice("m"), "macro m() = 1\nmacro m(a, a) = $x")
        self.named(Twice("t"), "kind t = A\nkind t 'a 'a = A")
        self.named(Twice("'a"), "kind t = A\nkind u 'a 'a = A")
        self.named(Twice("a"), "macro m(b, a, $a, a) = 1")
        self.named(Twice("$a"), "macro m($a, a, $a) = $b")
        self.named(Twice("A"), "kind t = A\nkind u = B | A | B")
        self.named(Twice("B"), "kind t = A | B | B('x)")
        Book("kind a = A\nmacro a(a) = a\ndef a = a")

    def test_contents_that_are_wrong(self):
        self.named(BadName("'b"), "kind t 'a = A('a) | B('b) | C(u)")
        self.named(BadName("'a"), "kind t 'a = A(u) | B(num['a])")
        self.named(BadName("'a"), "kind t 'a = A({a : num | 'a})")
        self.named(BadName("'x"), "kind t = A(num['x])")
        self.named(Unknown("u"), "kind t = A(u)\nkind u = B")
        self.named(Unknown("u"), "kind u = B\nkind t = A(u(num))")
        self.named(Unknown("u"), "kind u 'a = B\nkind t 'a = A(t('a)) | C(u) | D(v)")
        self.named(Unknown("t"), "kind t 'a 'b = A(t('b, 'a))")
        self.named(Unknown("t"), "kind t 'a = A(t)")
        self.named(Unknown("t"), "kind t 'a = A(t(num))")
        self.named(Unknown("t"), "kind t 'a = A(t(t('a)))")
        Book("kind u 'a = B('a)\nkind t 'a 'b = A(u(t('a, 'b)) -> u(u('b))) | C(t('a, 'b))")

    def test_templates_that_are_wrong(self):
        self.named(Unknown("$y"), "macro m($x) = fn $x -> fn $y -> @n($z)")
        self.named(Unknown("$x"), "macro m(x) = $x")
        self.named(Unknown("$g"), "macro m(x) = rec f $g = $h in 1")
        self.named(Unknown("$p"), "macro m() = match 1 {{a = $p} -> $q}")
        self.named(BadMacro("n"), "macro m() = @n()\nmacro n() = 1")
        self.named(BadMacro("m"), "macro m() = @m()")
        self.named(BadMacro("m"), "macro m(a) = 1\nmacro n() = @m(@m())")
        self.named(BadMacro("m"), "macro m($a) = 1\nmacro n(e) = {a = @m(e), b = @m(e(1)), c = @q()}")
        Book("macro m() = {a = z, b = (1 : own(num))}\ndef d = {a = @none(), b = (1 : own), c = z}")

    def test_order_of_the_exceptions(self):
        self.named(Twice("a"), "def a = 1\ndef a = 2\ndef")
        self.bad_line("def a = 1\ndef a = 2 2", 2)
        self.named(Twice("t"), "kind t = A\nkind t = B('x)")
        self.named(BadName("'x"), "kind t = A(u) | B('x)")
        self.named(Unknown("$x"), "macro m() = {a = @n(), b = $x}")


class Contents(BookCase):
    def test_lists(self):
        book = Book(TREE + "\n" + SWAP + "\nkind pair 'a 'b = Pair('a -> 'b)\nmacro none() = 1")
        for _ in range(2):
            self.assertEqual(book.kinds(), ["tree", "day", "pair"])
            self.assertEqual(book.macros(), ["swap", "none"])
            self.assertEqual(book.definitions(), ["one", "two"])
            self.assertEqual(book.constructors("tree"), ["Leaf", "Node"])
            self.assertEqual(book.parameters("pair"), ["'a", "'b"])
            self.assertEqual(book.parameters("day"), [])
            self.assertEqual(book.uses("one"), ["two"])
            self.assertEqual(book.groups(), [["one", "two"]])
            found = [book.kinds(), book.macros(), book.definitions(), book.constructors("tree"), book.uses("one"),
                     book.parameters("pair"), book.groups(), book.groups()[0]]
            for one in found:
                one.append("more")

    def test_kind_of_a_tag(self):
        book = Book(TREE)
        self.assertEqual(book.kind_of("Leaf"), ("tree", ("'a",), ("record", (), None)))
        self.assertEqual(book.kind_of("Node"), ("tree", ("'a",), read_kind("{left : tree('a), right : tree('a)}")))
        self.assertIsNone(book.kind_of("Yes"))
        self.assertIsNone(Book().kind_of("Leaf"))

    def test_trees(self):
        book = Book(SWAP)
        words, template = book.template_of("swap")
        self.assertEqual(words, ("$x", "e"))
        self.assertEqual(template, ("fn", "y", ("let", "$x", ("name", "y"), ("call", ("name", "e"), ("name", "y")))))
        self.assertFalse(is_tree(template))
        self.assertEqual(book.tree_of("two"), read("one + 1"))

    def test_no_such(self):
        book = Book(SWAP)
        for call in [book.constructors, book.parameters, book.template_of, book.tree_of, book.uses]:
            with self.assertRaises(NoSuch) as caught:
                call(name="none")
            self.assertEqual(caught.exception.name, "none")
        with self.assertRaises(NoSuch):
            book.tree_of("swap")


class Empty(BookCase):
    BOOK = ("kind loop = Round(loop)\nkind list 'a = Nil | Cons({h : 'a, t : list('a)})\nkind rose = Rose(list(rose))\n"
            "kind box 'a = Box('a)\nkind late = Late(<A : loop, B : box(late)>)\nkind either 'a 'b = L('a) | R('b)\n"
            "kind more 'a = More({h : 'a, t : more('a)})\nkind fun = Fun(fun -> fun)\nkind self = Self(either(self, {}))")

    def test_kinds(self):
        book = Book(self.BOOK)
        cases = {"num": False, "'x": False, "loop -> loop": False, "{}": False, "{a : loop}": True, "{a : num, b : loop}": True,
                 "{a : loop | 'r}": True, "{a : {b : loop}}": True, "<>": True, "<| 'r>": False, "<A : loop | 'r>": False,
                 "<A : loop>": True, "<A : loop, B : num>": False, "<Nil : {}>": True, "<Nil : {}, A : num>": False,
                 "<Nil : {}, A : loop>": True, "loop": True, "list(loop)": False, "list(num)": False, "rose": False,
                 "box(loop)": True, "box('x)": False, "box(box(loop))": True, "late": True, "either(loop, loop)": True,
                 "either(loop, num)": False, "either(num, loop)": False, "more(num)": True, "fun": False, "self": False}
        for text, expected in cases.items():
            self.assertIs(is_empty(book, read_kind(text)), expected, text)

    def test_kinds_that_are_not_told(self):
        book = Book(self.BOOK)
        for text, name in [("none", "none"), ("list", "list"), ("loop(num)", "loop"), ("{a : list(x), b : y}", "x"),
                           ("y(x) -> z", "y"), ("list(num, num) -> x", "list"), ("x -> loop(num)", "x")]:
            with self.assertRaises(Unknown) as caught:
                is_empty(book=book, kind=read_kind(text))
            self.assertEqual(caught.exception.name, name, text)


class Groups(BookCase):
    def test_uses(self):
        book = Book("macro call(a, $x) = {p = a, q = none, r = $x}\ndef a = {p = b, q = fn c -> c, r = c, s = b}\n"
                    "def b = @call(a, d)\ndef c = 1\ndef d = d\ndef none = @gone(c)\ndef e = fn x -> other(x)\n"
                    "def f = c.a + {c = 1}.c")
        self.assertEqual(book.uses("a"), ["b", "c"])
        self.assertEqual(book.uses("b"), ["a", "d", "none"])
        self.assertEqual([book.uses(name) for name in "cdef"], [[], ["d"], [], ["c"]])
        with self.assertRaises(BadMacro) as caught:
            book.uses("none")
        self.assertEqual(caught.exception.name, "gone")
        self.assertEqual(book.groups(), [["a", "b"], ["c"], ["d"], ["e"], ["f"], ["none"]])

    def test_longer_rings(self):
        book = Book("def z = y\ndef y = x + w\ndef x = z\ndef w = v\ndef v = w")
        self.assertEqual(book.groups(), [["v", "w"], ["x", "y", "z"]])
        self.assertEqual(Book().groups(), [])


if __name__ == "__main__":
    unittest.main()
