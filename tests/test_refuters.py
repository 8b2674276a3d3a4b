import itertools
import unittest

from widestkind.books import Book
from widestkind.errors import BadPlace, BadWeight, TooMany
from widestkind.papers import clash, judge_clash, paper_places
from widestkind.ratios import Ratio
from widestkind.refuters import (blamed, cheapest_mend, failed, is_mend, is_mend_paper, is_refuter, mend_paper, mends, refuter,
                                 refuters)
from widestkind.solving import fits
from widestkind.wholes import Whole

BOOK = Book("kind tree 'a = Leaf | Node({left : tree('a), here : 'a})\nmacro both(e) = {a = e, b = e(1)}\n"
            "macro bind($x, e) = fn $x -> e + 1[m]\ndef add = fn x -> x + 1[m]\ndef even = fn n -> odd(n)\ndef odd = fn n -> even(n) + 1")

PLUS = Whole(Book(), "{} + {}")

TEXTS = [
    "{} + {}", "1[m] + 2[s] + 3", "add(T)", "let f = fn x -> x + 1 in {a = f(T), b = f(1[s])}", "@both(fn x -> x(1))",
    "rec f x = f(x)(f) in f", "match A {B -> 1; C -> T}", "@bind(x, x(x))", "{a = 1(1), b = 2(2)}", "even(A).a", "(1 : {}).a + 2",
    "match Leaf {Node({here = A}) -> 1; B -> 2}", "fn x -> {a = x + 1, b = x(x)}", "let f = fn x -> x in f(f)(3) + f(T)",
]


def plain_search(whole):
    """All refuters and all mends of a whole, found by asking of each lot whether it fits."""
    places = whole.places()
    told = {}
    for many in range(len(places) + 1):
        for lot in itertools.combinations(places, many):
            told[lot] = fits(whole, list(lot))
    less = {lot: [tuple(one for one in lot if one != place) for place in lot] for lot in told}
    found = [list(lot) for lot in told if not told[lot] and all(told[one] for one in less[lot])]
    behind = {lot: tuple(place for place in places if place not in lot) for lot in told}
    changed = [list(lot) for lot in told if told[behind[lot]] and not any(told[behind[one]] for one in less[lot])]
    return [sorted(lots, key=lambda lot: (len(lot), lot)) for lots in (found, changed)]


def spoilt(value):
    """Mend papers that are near to one: something in them is left out or is another thing."""
    yield from [None, [], (), list(value), (value[0],), (*value, None), (None, value[1]), (value[0], list(value[1]))]
    yield (value[0], value[1][1:])
    yield (value[0], (*value[1], None))
    yield (([], value[0][1]), value[1])
    for index, inner in enumerate(value[1]):
        for other in ([((), ())] if inner is None else spoilt(inner)):
            yield (value[0], (*value[1][:index], other, *value[1][index + 1:]))


class Refuters(unittest.TestCase):
    def test_examples(self):
        self.assertEqual([refuter(PLUS), refuters(PLUS), mends(PLUS)],
                         [[("", 0), ("", 1)], [[("", 0), ("", 1)], [("", 0), ("", 2)]], [[("", 0)], [("", 1), ("", 2)]]])
        self.assertEqual([cheapest_mend(PLUS), cheapest_mend(PLUS, {("", 0): 3})], [(1, [("", 0)]), (2, [("", 1), ("", 2)])])
        self.assertEqual([is_mend(PLUS, [("", 2), ("", 1)]), is_refuter(PLUS, [("", 0), ("", 1), ("", 2)])], [True, False])
        self.assertEqual([failed(PLUS, [("", 1), ("", 2)]).text, fits(failed(PLUS, [("", 0)]))], ["fail cut + fail cut", True])
        self.assertEqual([refuters(Whole(Book(), "1 + 2")), mends(Whole(Book(), "1 + 2"))], [[], [[]]])

    def test_against_a_plain_search(self):
        many = set()
        for text in TEXTS:
            whole = Whole(BOOK, text)
            if len(whole.places()) > 11:
                continue
            found, changed = plain_search(whole)
            many.add(len(found))
            self.assertEqual(refuters(whole), found, text)
            self.assertEqual(mends(whole), changed, text)
            self.assertEqual(blamed(whole), sorted({place for lot in found for place in lot}))
            self.assertEqual(blamed(whole), sorted({place for lot in changed for place in lot}))
            self.assertEqual(cheapest_mend(whole), (len(changed[0]), changed[0]))
            for lot in found + changed:
                self.assertEqual(is_refuter(whole, lot[::-1]), lot in found)
                self.assertEqual(is_mend(whole, tuple(lot)), lot in changed)
        self.assertGreater(len(many), 2)
        self.assertLessEqual({1, 2}, many)

    def test_wholes_that_fit(self):
        for text in ["1 + 2", "fn x -> x", "add(1[m])", "even"]:
            whole = Whole(BOOK, text)
            self.assertEqual([refuter(whole), refuters(whole), mends(whole), blamed(whole)], [None, [], [[]], []])
            self.assertEqual([cheapest_mend(whole), mend_paper(whole), is_mend(whole, []), is_mend(whole, whole.places()[:1])],
                             [(0, []), None, True, False])
            self.assertEqual([is_refuter(whole, []), is_refuter(whole, whole.places())], [False, False])

    def test_the_refuter_that_is_left(self):
        for text in TEXTS:
            whole = Whole(BOOK, text)
            left = whole.places()
            for place in left[::-1]:
                rest = [one for one in left if one != place]
                left = left if fits(whole, rest) else rest
            self.assertEqual(refuter(whole), left, text)
            self.assertTrue(is_refuter(whole, left))
            some = (whole.places() * 2)[1::2]
            if not fits(whole, some):
                self.assertEqual(refuter(whole, places=some), refuter(whole, sorted(set(some))))
        self.assertEqual(refuter(PLUS, [("", 2), ("", 0), ("", 2)]), [("", 0), ("", 2)])
        self.assertIsNone(refuter(PLUS, [("", 1), ("", 2)]))
        self.assertIsNone(refuter(PLUS, ()))

    def test_bad_places(self):
        for place in [("", 3), ("", True), ("", False), ("x", 0), ["", 0], None, ("", 0, 0), ("", -1), 0, "", ("", "0"), ("", [])]:
            for ask in [lambda: refuter(PLUS, [("", 0), place, ("", 9)]), lambda: failed(PLUS, [("", 0), place, ("", 9)])]:
                with self.assertRaises(BadPlace) as caught:
                    ask()
                self.assertIs(caught.exception.given, place)
            self.assertFalse(is_refuter(PLUS, [("", 0), ("", 1), place]))
            self.assertFalse(is_mend(PLUS, [("", 0), place]))

    def test_values_that_are_no_lots(self):
        for value in [None, True, 3, "lot", {}, {("", 0): 1}, ("", 0), [("", 0)] * 2, [("", 1), ("", 1), ("", 2)], [[("", 0)]],
                      Ratio(1), [("", 1)], [("", 0), ("", 2), ("", 1)], [], [["", 0]], [("", 2)], [("", 1), ("", 2), ("", 0)]]:
            self.assertIs(is_refuter(PLUS, value), False)
            self.assertIs(is_mend(PLUS, value), False)
        self.assertIs(is_refuter(PLUS, (("", 2), ("", 0))), True)
        self.assertIs(is_mend(PLUS, (("", 0),)), True)

    def test_weights(self):
        whole = Whole(Book(), "{a = 1(1), b = {} + {}}")
        changed = mends(whole)
        for weights in [None, {}, {("", 0): 5}, {("", 1): 0, ("", 2): 0}, {place: 0 for place in whole.places()},
                        {("", 1): 10 ** 29, ("", 4): 7, ("", 2): 3}, {("", 4): 2}, {("", 4): 3}]:
            cost = [sum((weights or {}).get(place, 1) for place in lot) for lot in changed]
            expected = (min(cost), changed[cost.index(min(cost))])
            self.assertEqual(cheapest_mend(whole, weights), expected, weights)
            paper = mend_paper(whole, weights=weights)
            self.assertTrue(is_mend_paper(whole, weights, min(cost), paper))
            self.assertFalse(is_mend_paper(whole, weights, min(cost) + 1, paper))
        self.assertTrue(is_mend_paper(whole, None, 0, None))
        self.assertTrue(is_mend_paper(whole, None, -3, None))
        self.assertFalse(is_mend_paper(whole, None, 1, None))

    def test_bad_weights(self):
        for weights, wrong, given in [
                ({("", 0): 1, ("", 9): 1, ("", 1): -1}, BadPlace, ("", 9)), ({("", 1): -1, ("", 9): 1}, BadWeight, -1),
                ({("", True): 1}, BadPlace, ("", True)), ({("", False): 1}, BadPlace, ("", False)), ({0: 1}, BadPlace, 0),
                ({None: 1}, BadPlace, None), ({("", 1): True}, BadWeight, True), ({("", 1): None}, BadWeight, None),
                ({("", 1): "1"}, BadWeight, "1"), ({("", 1): Ratio(1)}, BadWeight, Ratio(1)), ({("", 9): -1}, BadPlace, ("", 9))]:
            for ask in [cheapest_mend, mend_paper, lambda whole, table: is_mend_paper(whole, table, 1, None)]:
                with self.assertRaises(wrong) as caught:
                    ask(PLUS, weights)
                self.assertEqual(caught.exception.given, given)

    def test_too_many(self):
        def sum_of(many):
            return Whole(Book(), " + ".join(["{}"] * many))

        self.assertEqual([len(sum_of(many).places()) for many in (8, 9, 12, 13)], [15, 17, 23, 25])
        for ask in [refuters, mends, blamed]:
            with self.assertRaises(TooMany) as caught:
                ask(sum_of(9))
            self.assertEqual(caught.exception.count, 17)
            self.assertTrue(ask(sum_of(8)))
        for ask in [cheapest_mend, mend_paper]:
            with self.assertRaises(TooMany) as caught:
                ask(sum_of(13))
            self.assertEqual(caught.exception.count, 25)
            with self.assertRaises(BadWeight):
                ask(sum_of(13), {("", 0): -1})
        self.assertEqual(cheapest_mend(sum_of(12))[0], 11)
        self.assertTrue(is_mend_paper(sum_of(12), None, 11, mend_paper(sum_of(12))))
        self.assertTrue(is_refuter(sum_of(13), refuter(sum_of(13))))

    def test_mend_papers(self):
        for text in TEXTS:
            whole = Whole(BOOK, text)
            weight, mend = cheapest_mend(whole)
            paper = mend_paper(whole)
            self.assertIs(is_mend_paper(whole, None, weight, paper), True, text)
            self.assertTrue(judge_clash(whole, paper[0]))
            self.assertEqual(len(paper[1]), len(paper_places(whole, paper[0])))
            for bound in [0, weight - 1, weight + 1]:
                self.assertFalse(is_mend_paper(whole, None, bound, paper))
            for other in [one for one in spoilt(paper) if one != paper]:
                self.assertIs(is_mend_paper(whole, None, weight, other), False, (text, other))

    def test_places_that_are_taken(self):
        paper = clash(PLUS, [("", 0), ("", 1)])
        other = clash(PLUS, [("", 0), ("", 2)])
        weights = {("", 0): 2}
        self.assertTrue(is_mend_paper(PLUS, weights, 2, (paper, (None, (other, (None, None))))))
        self.assertFalse(is_mend_paper(PLUS, weights, 2, (paper, (None, (paper, (None, None))))))
        self.assertFalse(is_mend_paper(PLUS, weights, 2, (paper, ((other, (None, None)), None))))
        self.assertTrue(is_mend_paper(PLUS, weights, 2, (other, (None, (paper, (None, None))))))


class Failed(unittest.TestCase):
    def test_places_within_one_another(self):
        whole = Whole(BOOK, "{} + {{a = 1} with a = 2}")
        self.assertEqual(failed(whole, [("", 2), ("", 4)]).text, "{} + fail cut")
        self.assertEqual(failed(whole, [("", 4), ("", 1)], word="gone").text, "fail gone + {{a = fail gone} with a = 2}")
        self.assertEqual(failed(whole, [("", 0)]).text, "fail cut")

    def test_what_holds_none_of_the_places_stays(self):
        whole = Whole(BOOK, "@both( fn x->x ).a(add( (T) ))")
        self.assertEqual(failed(whole, []).text, whole.text)
        other = failed(whole, [("add", 1), ("@both", 4)])
        self.assertEqual(other.text, whole.text)
        self.assertEqual(str(other.book).split("\n")[1:4],
                         ["macro both(e) = {a = e, b = e(fail cut)}",
                          "macro bind($x, e) = fn $x -> e + 1[m]", "def add = fn x -> fail cut"])
        self.assertEqual(str(other.book).split("\n")[4:], str(BOOK).split("\n")[4:])
        self.assertEqual(failed(whole, [("", 7)]).text, "@both(fn x -> x).a(add(fail cut))")
        self.assertEqual(failed(whole, [("@both", 0)]).text, whole.text)

    def test_rows_and_patterns(self):
        whole = Whole(BOOK, "match A {B(x) -> x; {} -> 1}")
        self.assertEqual(len(whole.places()), 10)
        for number in [3, 4, 5, 7, 8]:
            with self.assertRaises(BadPlace) as caught:
                failed(whole, [("", 0), ("", number)])
            self.assertEqual(caught.exception.given, ("", number))
        self.assertEqual(failed(whole, [("", 1), ("", 9), ("", 6)]).text, "match fail cut {B(x) -> fail cut; {} -> fail cut}")

    def test_mends_make_places_fit(self):
        for text in TEXTS:
            whole = Whole(BOOK, text)
            for lot in mends(whole) if len(whole.places()) <= 16 else [cheapest_mend(whole)[1]]:
                try:
                    other = failed(whole, lot)
                except BadPlace:
                    continue
                self.assertTrue(fits(other), (text, lot))


if __name__ == "__main__":
    unittest.main()
