import itertools
import unittest

from widestkind.books import Book
from widestkind.cases import matched_kind, takes
from widestkind.errors import BadKnot, NoKind
from widestkind.kinds import fill
from widestkind.looks import cheapest_looks, is_looks, looks, most_looks
from widestkind.ratios import Ratio
from widestkind.wholes import Whole

BOOK = Book("kind tree 'a = Leaf | Node({left : tree('a), here : 'a, right : tree('a)})\nkind loop = Round(loop)\n"
            "kind day = Sun | Rain({cm : num[cm]}) | Snow(loop)\nkind opt 'a = None | Some('a)\nkind one = Only(<P : {}, Q : {}>)\n"
            "kind bool = T | F")

MATCHES = [
    "Leaf -> 1", "Leaf -> 1; Node({left = Leaf, here = x}) -> 2", "Node({left = Leaf}) -> 1; Leaf -> 2; Node({right = Leaf}) -> 3",
    "A -> 1; B -> 2", "A -> 1; B -> 2; _ -> 3; C -> 4", "_ -> 1; A -> 2", "A(Leaf) -> 1; A(x) -> 2; B -> 4",
    "{a = A, b = A} -> 1; {a = B} -> 2; {b = B} -> 3", "{a = A} -> 1; {b = B} -> 2", "x -> 1", "Sun -> 1; Rain({cm = x}) -> 2",
    "Round(x) -> 1", "Some(Some(A)) -> 1; Some(Some(B)) -> 2; Some(None) -> 3; None -> 4; _ -> 5", "Only(P) -> 1; Only(Q) -> 2",
    "{a = T, b = T} -> 1; {b = F, c = T} -> 2; {a = F, c = F} -> 3; _ -> 4", "{a = A, b = x} -> 1; {a = B} -> 2; y -> 3",
    "{a = Only(P), b = T} -> 1; {b = F} -> 2", "{a = T, b = F} -> 1; {a = F, b = T} -> 2", "{a = {b = A(B(C))}} -> 1; {a = {b = A(x)}} -> 2; z -> 3",
]


def whole_of(rows):
    return Whole(BOOK, "fn t -> match t {" + rows + "}")


def values_of(kind, depth, ways, way=()):
    """Values of a kind: with all tags at ways that are of interest, and with some tag elsewhere."""
    if kind[0] in ("num", "fn", "name"):
        return [{"num": ("number", 0, None), "fn": ("fn", "x", ("fail", "gap"))}.get(kind[0], ("record", ()))]
    if kind[0] == "record":
        rows = itertools.product(*[values_of(inner, depth, ways, (*way, label)) for label, inner in kind[1]])
        return [("record", tuple((entry[0], value) for entry, value in zip(kind[1], row))) for row in rows]
    if depth == 0:
        return []
    if kind[0] == "own":
        entries = []
        for tag in BOOK.constructors(kind[1]):
            _, words, content = BOOK.kind_of(tag)
            entries.append((tag, fill(content, dict(zip(words, kind[2])))))
    else:
        entries = [entry for entry in kind[1] if BOOK.kind_of(entry[0]) is None]
        entries += [] if kind[2] is None else [(tag, ("record", (), None)) for tag in ("Zz", "Zy") if tag not in dict(kind[1])]
    found = [("tag", tag, value) for tag, inner in entries for value in values_of(inner, depth - 1, ways, (*way, tag))]
    return found if way in ways else found[:1]


def part_at(value, way):
    for step in way:
        if step[0].isupper():
            if value[0] != "tag" or value[1] != step:
                return None
            value = value[2]
        elif value[0] != "record" or step not in dict(value[1]):
            return None
        else:
            value = dict(value[1])[step]
    return value


def ways_in(tree):
    if tree[0] != "look":
        return []
    inner = [one for _, one in tree[2]] + ([] if tree[3] is None else [tree[3]])
    return [tree[1]] + [way for one in inner for way in ways_in(one)]


def ends_right(tree, values, rows, seen=()):
    """Whether a tree of looks is right for values, by going through it with each of them."""
    if tree[0] != "look":
        ends = [[index for index, row in enumerate(rows) if takes(row[0], value)][:1] for value in values]
        return all(tree == (("row", end[0]) if end else ("missed",)) for end in ends)
    _, way, branches, other = tree
    parts = [part_at(value, way) for value in values]
    if way in seen or any(part is None or part[0] != "tag" for part in parts):
        return False
    split = {tag: [value for value, part in zip(values, parts) if part[1] == tag] for tag, _ in branches}
    rest = [value for value, part in zip(values, parts) if part[1] not in split]
    if bool(rest) != (other is not None) or not all(split.values()):
        return False
    if other is not None and not ends_right(other, rest, rows, (*seen, way)):
        return False
    return all(ends_right(inner, split[tag], rows, (*seen, way)) for tag, inner in branches)


def least(values, ways, rows):
    """The least number of looks within one another that tell the rows of values apart."""
    ends = {tuple(index for index, row in enumerate(rows) if takes(row[0], value))[:1] for value in values}
    if len(ends) == 1:
        return 0
    best = None
    for way in ways:
        parts = [part_at(value, way) for value in values]
        if any(part is None or part[0] != "tag" for part in parts) or len({part[1] for part in parts}) == 1:
            continue
        groups = [[value for value, part in zip(values, parts) if part[1] == tag] for tag in {part[1] for part in parts}]
        most = 1 + max(least(group, ways, rows) for group in groups)
        best = most if best is None else min(best, most)
    return best


def bent(tree, rows):
    """Trees of looks near to one: with a branch left out or put in, another way, other row, and so on."""
    ends = [("missed",)] + [("row", index) for index in range(rows)]
    if tree[0] != "look":
        yield from [end for end in ends if end != tree]
        yield ("look", (), (("A", tree), ("Leaf", tree)), None)
        yield ("look", (), (("Leaf", tree), ("Node", tree)), tree)
        return
    _, way, branches, other = tree
    for index, (tag, inner) in enumerate(branches):
        if len(branches) > 1:
            yield ("look", way, (*branches[:index], *branches[index + 1:]), other)
        for one in bent(inner, rows):
            yield ("look", way, (*branches[:index], (tag, one), *branches[index + 1:]), other)
        for tag in ["A", "Leaf", "Sun", "Zy", "Zz"]:
            if tag not in dict(branches):
                yield ("look", way, tuple(sorted([*branches, (tag, inner)])), other)
        yield ("look", way, (*branches[:index], (tag, ("look", way, branches, other)), *branches[index + 1:]), other)
    for one in [None, *ends] + ([] if other is None else list(bent(other, rows))):
        yield ("look", way, branches, one)
    for one in [(), ("a",), ("b",), (*way, "left"), (*way, "A"), way[:-1], (*way, branches[0][0])]:
        yield ("look", one, branches, other)


class Looks(unittest.TestCase):
    def test_example(self):
        whole = Whole(BOOK, "fn t -> match t {Node({left = Leaf, here = x}) -> x; Leaf -> 0}")
        shape = ("look", (), (("Leaf", ("row", 1)), ("Node", ("look", ("Node", "left"), (("Leaf", ("row", 0)), ("Node", ("missed",))), None))), None)
        self.assertEqual([is_looks(whole, 1, shape), most_looks(shape), most_looks(cheapest_looks(whole, 1))], [True, 2, 2])
        self.assertTrue(is_looks(whole, 1, looks(whole, 1)))

    def test_right_for_all_values(self):
        for rows in MATCHES:
            whole = whole_of(rows)
            patterns = whole.knots()[1][2][2]
            for tree in [looks(whole, 1), cheapest_looks(whole, 1)]:
                self.assertIs(is_looks(whole, 1, tree), True, (rows, tree))
                values = values_of(matched_kind(whole, 1), 5, [*ways_in(tree), (), ("a",), ("b",), ("c",)])
                self.assertTrue(ends_right(tree, values, patterns), (rows, tree))
            self.assertLessEqual(most_looks(cheapest_looks(whole, 1)), most_looks(looks(whole, 1)))

    def test_fewest_looks_within_one_another(self):
        depths = set()
        for rows in MATCHES:
            whole = whole_of(rows)
            kind = matched_kind(whole, 1)
            patterns = whole.knots()[1][2][2]
            ways = sorted({way for way in tag_ways([row[0] for row in patterns])})
            values = values_of(kind, 5, ways)
            if values:
                depths.add(least(values, ways, patterns))
                self.assertEqual(most_looks(cheapest_looks(whole, 1)), least(values, ways, patterns), rows)
        self.assertEqual(depths, {0, 1, 2, 3})

    def test_looks_only_where_rows_have_tags(self):
        for rows in MATCHES:
            whole = whole_of(rows)
            patterns = [row[0] for row in whole.knots()[1][2][2]]
            kind = matched_kind(whole, 1)
            for tree in [looks(whole, 1), cheapest_looks(whole, 1)]:
                waiting = [tree]
                while waiting:
                    one = waiting.pop()
                    if one[0] != "look":
                        continue
                    self.assertIn(one[1], tag_ways(patterns))
                    for tag, inner in one[2]:
                        waiting.append(inner)
                        self.assertTrue(tag in tag_ways(patterns)[one[1]] or BOOK.kind_of(tag) is not None, (kind, tag))
                    waiting += [] if one[3] is None else [one[3]]

    def test_bent_trees(self):
        right = wrong = 0
        for rows in MATCHES:
            whole = whole_of(rows)
            patterns = whole.knots()[1][2][2]
            kind = matched_kind(whole, 1)
            for tree in bent(looks(whole, 1), len(patterns)):
                values = values_of(kind, 6, [*ways_in(tree), *tag_ways([row[0] for row in patterns])])
                expected = bool(values) and ends_right(tree, values, patterns)
                if "'A', ('row'" in str(tree) and "'A'" not in str(patterns):
                    continue
                self.assertEqual(is_looks(whole, 1, tree), expected, (rows, tree))
                right += expected
                wrong += not expected
        self.assertGreater(right, 10)
        self.assertGreater(wrong, 300)

    def test_no_value(self):
        whole = whole_of("Round(x) -> 1; _ -> 2")
        self.assertEqual([looks(whole, 1), cheapest_looks(whole, 1)], [("missed",), ("missed",)])
        self.assertIs(is_looks(whole, 1, ("missed",)), True)
        for value in [("row", 0), ("row", 1), ("look", (), (("Round", ("row", 0)),), None), ["missed"], "missed", None, ("missed", 1)]:
            self.assertIs(is_looks(whole, 1, value), False)

    def test_other_tags_of_a_row_name(self):
        whole = whole_of("A -> 1; x -> 2")
        end = ("row", 1)
        for branches, other, expected in [
                ((("A", ("row", 0)),), end, True), ((("A", ("row", 0)), ("B", end)), end, True), ((("A", ("row", 0)),), None, False),
                ((("A", ("row", 0)), ("Leaf", end)), end, False), ((("B", end),), end, False),
                ((("A", ("row", 0)), ("B", ("look", ("B",), (("C", end),), end))), end, False), ((("B", end), ("A", ("row", 0))), end, False),
                ((("A", ("row", 0)), ("A", ("row", 0))), end, False), ((("A", ("look", ("A",), (("C", ("row", 0)),), ("row", 0))),), end, False)]:
            self.assertIs(is_looks(whole, 1, ("look", (), branches, other)), expected, branches)

    def test_a_way_through_a_tag_that_all_values_have(self):
        whole = whole_of("Only(P) -> 1; Only(Q) -> 2")
        inner = ("look", ("Only",), (("P", ("row", 0)), ("Q", ("row", 1))), None)
        for tree in [inner, ("look", (), (("Only", inner),), None), ("look", ("Only",), (("P", ("row", 0)),), ("row", 1))]:
            self.assertIs(is_looks(whole, 1, tree), True)
        for tree in [("look", (), (("Only", inner),), inner), ("look", ("Only",), inner[2], ("missed",)),
                     ("look", ("Only",), (("P", ("row", 0)), ("Q", ("look", (), (("Only", inner),), None))), None)]:
            self.assertIs(is_looks(whole, 1, tree), False)
        self.assertIs(is_looks(whole, 1, ("look", ("Only",), (("P", ("row", 0)), ("Q", ("look", (), (("Only", ("row", 1)),), None))), None)), True)

    def test_any_value(self):
        whole = whole_of("A -> 1; B -> 2")
        right = ("look", (), (("A", ("row", 0)), ("B", ("row", 1))), None)
        self.assertIs(is_looks(whole, 1, right), True)
        for value in [None, True, 3, "row", [], (), {}, Ratio(1), ("row",), ("row", True), ("row", False), ("row", 9), ("row", -1), ("row", "0"),
                      ("row", 0), ("missed",), ("look",), list(right), ("look", [], right[2], None), ("look", (), list(right[2]), None),
                      ("look", (), (["A", ("row", 0)], right[2][1]), None), ("look", (), (("A", ["row", 0]), right[2][1]), None),
                      ("look", (), (), ("row", 0)), ("look", (), right[2]), (*right, None), ("look", (1,), right[2], None),
                      ("look", ("",), right[2], None), ("look", (), (("A", ("row", 0), 1), right[2][1]), None), ("look", (), right[2], ()),
                      ("look", (), right[2][::-1], None), ("look", (), right[2], False), ("look", ("fn",), right[2], None),
                      ("look", (), ((1, ("row", 0)), right[2][1]), None), ("look", "", right[2], None), ("look", None, right[2], None)]:
            self.assertIs(is_looks(whole, 1, value), False, value)

    def test_copies_and_exceptions(self):
        whole = Whole(BOOK, "let f = fn x -> match x {A -> 1; B -> 2} in {a = f(A), b = f}")
        knots = [knot for knot, (_, _, part) in enumerate(whole.knots()) if part[0] == "match"]
        self.assertEqual(len(knots), 3)
        for knot in knots:
            self.assertTrue(is_looks(whole, knot, looks(whole, knots[0])))
        whole = Whole(BOOK, "{a = match A {A -> 1}, b = 1(2)}")
        for ask in [looks, cheapest_looks, lambda one, knot: is_looks(one, knot, ("missed",))]:
            for knot in [0, 2, 99, -1, True, None]:
                with self.assertRaises(BadKnot) as caught:
                    ask(whole, knot)
                self.assertIs(caught.exception.given, knot)
            with self.assertRaises(NoKind):
                ask(whole, 1)

    def test_at_the_limits(self):
        labels = "abcdefgh"
        rows = "; ".join("{" + one + " = T} -> 1" for one in labels)
        whole = whole_of(rows)
        self.assertTrue(is_looks(whole, 1, looks(whole, 1)))
        self.assertEqual(most_looks(looks(whole, 1)), 8)
        rows = "; ".join("{" + one + " = T, " + other + " = F} -> 1" for one, other in ["ab", "bc", "cd", "da"])
        whole = whole_of(rows)
        self.assertTrue(is_looks(whole, 1, cheapest_looks(whole, 1)))
        self.assertEqual(most_looks(("missed",)), 0)


def tag_ways(patterns):
    """The dict from the ways at which patterns have tags to these tags."""
    found = {}
    for pattern in patterns:
        waiting = [(pattern, ())]
        while waiting:
            one, way = waiting.pop()
            if one[0] == "tag":
                found.setdefault(way, []).append(one[1])
                waiting.append((one[2], (*way, one[1])))
            elif one[0] == "record":
                waiting += [(inner, (*way, label)) for label, inner in one[1]]
    return found


if __name__ == "__main__":
    unittest.main()
