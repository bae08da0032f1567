import re
import unittest

from helper import (
    BENT_BOTH_WAYS, BENT_DOWN, BENT_UP, NOUGHT, ONE, SHAPES, SIXTY, SIXTY_MORE, SMALL, STAIRS, TINY, ZERO, CurveCase,
    large_curve, long_curve, row_of_numbers, shape, told)

from curvehouse.curves import curve, heap, late
from curvehouse.errors import CurveError, NoEnd, NoName, NoText
from curvehouse.joins import joined
from curvehouse.meets import least, most, summed
from curvehouse.rests import left
from curvehouse.terms import Term, read_term
from curvehouse.texts import show_curve
from curvehouse.undoing import undone

WORDS = {"least": least, "most": most, "sum": summed, "join": joined, "undo": undone, "left": left}
NO_TEXTS = (None, True, False, 0, 1, SIXTY, 1.5, (), ("a",), ["a"], [], {}, {"a": ZERO}, b"a", NOUGHT, ZERO, object())
BOOK = {"a": BENT_DOWN, "b": STAIRS, "c": BENT_BOTH_WAYS, "d": heap(ONE, NOUGHT), "least": late(ONE, (2, 1)),
        "undo": heap(NOUGHT, (3, 1))}


def plain_depth(text):
    """How many brackets deep the term is, None where the text is none: found from the innermost brackets outwards."""
    if re.search(r"[A-Z]", text):
        return None

    def atom(found):
        return "A" if len(found[0]) <= 8 else found[0]

    def pair(found):
        return chr(max(ord(found[1]), ord(found[2])) + 1)

    text = re.sub(r"[a-z]+(?![a-z(])", atom, text)
    while True:
        less = re.sub(r"(?<![a-z])(?:least|most|sum|join|undo|left)\(([A-Z]),([A-Z])\)", pair, text)
        if less == text:
            break
        text = less
    return ord(text) - ord("A") if re.fullmatch(r"[A-K]", text) else None


def plain_worth(text, book):
    """Reckoned by Python itself, which reads left arguments first."""
    calls = {word + "_": function for word, function in WORDS.items()}
    return eval(re.sub(r"([a-z]+)(?=\()", r"\1_", text), calls, dict(book))


def drawn_term(numbers, depth):
    if depth == 0 or next(numbers) % 4 == 0:
        return list(BOOK)[next(numbers) % len(BOOK)]
    word = list(WORDS)[next(numbers) % 6]
    return f"{word}({drawn_term(numbers, depth - 1)},{drawn_term(numbers, depth - 1)})"


def left_deep(depth, inner="a", word="sum"):
    return f"{word}(" * depth + inner + ",b)" * depth


def right_deep(depth, inner="a", word="sum"):
    return f"{word}(b," * depth + inner + ")" * depth


def both_deep(depth):
    return "a" if depth == 0 else f"least({both_deep(depth - 1)},{both_deep(depth - 1)})"


class TermCase(CurveCase):
    def check_refused(self, text):
        for refusal in (NoText, CurveError):
            with self.assertRaises(refusal, msg=repr(text)):
                read_term(text)

    def check_read(self, text):
        """Tells whether it is read."""
        if plain_depth(text) is None:
            self.check_refused(text)
            return False
        term = read_term(text)
        self.assertIsInstance(term, Term)
        self.assertEqual(term.shown(), text)
        self.assertIs(type(term.shown()), str)
        names = term.names()
        self.assertIs(type(names), list)
        self.assertEqual(names, sorted(set(re.findall(r"[a-z]+(?![a-z(])", text))))
        return True

    def check_told(self, text, book, expected):
        kept = dict(book)
        found = read_term(text).worth(book)
        self.assertEqual(list(book.items()), list(kept.items()))
        self.check_curve(found, expected)

    def check_no_worth(self, text, book, refusal):
        kept = dict(book)
        term = read_term(text)
        for kind in (refusal, CurveError):
            with self.assertRaises(kind, msg=text):
                term.worth(book)
        self.assertEqual(list(book.items()), list(kept.items()))
        self.assertEqual(term.shown(), text)


class ReadTest(TermCase):
    def test_names(self):
        for text in ("a", "z", "ab", "curve", "abcdefg", "abcdefgh", "zzzzzzzz", "aaaaaaaa"):
            self.assertTrue(self.check_read(text))
            self.assertEqual(read_term(text).names(), [text])

    def test_names_of_nine_letters_and_none(self):
        for text in ("abcdefghi", "aaaaaaaaa", "leastleast", "", "a" * 3000):
            self.check_refused(text)
            self.check_refused(f"sum({text},a)")
            self.check_refused(f"sum(a,{text})")
        self.assertTrue(self.check_read("sum(abcdefgh,hgfedcba)"))

    def test_each_word(self):
        for word in WORDS:
            self.assertTrue(self.check_read(f"{word}(a,b)"))
            self.assertEqual(read_term(f"{word}(b,a)").names(), ["a", "b"])

    def test_names_that_are_words(self):
        for word in WORDS:
            self.assertTrue(self.check_read(word))
            for other in WORDS:
                self.assertTrue(self.check_read(f"{word}({other},{word})"))
                self.assertTrue(self.check_read(f"{word}({word},{other}({word},{other}))"))
            self.assertEqual(read_term(f"{word}({word},{word})").names(), [word])

    def test_words_that_are_none(self):
        for word in ("", "a", "leas", "leasts", "lest", "joined", "undone", "summed", "total", "Least", "LEAST", "min",
                     "mostleft", "l", "ab", "least "):
            self.check_refused(f"{word}(a,b)")
            self.check_refused(f"sum({word}(a,b),a)")
            self.check_refused(f"sum(a,{word}(a,b))")

    def test_ten_brackets_and_eleven(self):
        for made in (left_deep, right_deep):
            for depth in range(11):
                self.assertTrue(self.check_read(made(depth)))
            for depth in (11, 12, 15, 29):
                self.check_refused(made(depth))
                self.check_refused(f"sum({made(depth)},a)")
        self.assertTrue(self.check_read(f"most({left_deep(9)},{right_deep(9)})"))
        self.check_refused(f"most({left_deep(10)},a)")
        self.check_refused(f"most(a,{left_deep(10)})")
        self.check_refused(f"most({right_deep(10)},{left_deep(3)})")
        self.assertTrue(self.check_read(both_deep(7)))
        # The depth alone counts, not how many brackets there are.
        self.assertEqual(both_deep(7).count("("), 127)

    def test_thirty_brackets_open_at_once(self):
        self.check_refused("sum(" * 30)
        self.check_refused("(" * 30)
        self.check_refused("(" * 30 + "a" + ")" * 30)
        self.check_refused(left_deep(30))
        self.check_refused(right_deep(30))

    def test_a_blank_a_tab_or_a_line_end_at_any_place(self):
        for text in ("a", "least(a,b)", "sum(a,left(b,c))"):
            for sign in (" ", "\t", "\n", "  "):
                for place in range(len(text) + 1):
                    self.check_refused(text[:place] + sign + text[place:])

    def test_brackets_and_commas(self):
        for text in ("(", ")", "()", ",", "(a)", "(a,b)", "a,b", "sum(", "sum()", "sum(,)", "sum(a)", "sum(a,)",
                     "sum(,a)", "sum(a,b,c)", "sum(a,b", "suma,b)", "sum(a,b))", "sum((a,b)", "sum((a,b))", "sum(a b)",
                     "sum a,b", "sum(a,b)c", "csum(a,b)", "sum(a,b)sum(a,b)", "sum(a,b),c", "sum(a,b)(", "sum(a,b)()",
                     "sum(a,,b)", "sum(sum(a,b),c", "sum(a,sum(b,c)", "sum(sum(a,b)c)", "sum(a)b)", "sum(a,b)(a,b)",
                     "sum[a,b]", "sum{a,b}", "sum(a;b)", "sum)a,b(", "sum()a,b)", "sum(a),(b)", "sum(a,b(c)",
                     "sum(a(,b)"):
            self.check_refused(text)

    def test_other_signs(self):
        for text in ("A", "aB", "a1", "1", "0", "a_b", "a-b", "a.b", "+a", "a+b", "~", "a'", "0:0 +1", "A(a,b)",
                     "\u00e9", "\u0430", "a\u0301", "\u00aa", "sum(a,\u00e9)", "\uff53um(a,b)"):
            self.check_refused(text)

    def test_texts_near_others(self):
        read = 0
        for text in ("ab", "sum(a,b)", "left(least(a,b),join(c,undo(a,d)))", "abcdefgh", left_deep(3)):
            self.assertTrue(self.check_read(text))
            for place in range(len(text) + 1):
                read += self.check_read(text[:place] + text[place + 1:])
                for sign in "a(),z A1 s":
                    read += self.check_read(text[:place] + sign + text[place:])
                    read += self.check_read(text[:place] + sign + text[place + 1:])
        self.assertGreater(read, 50)

    def test_drawn_ones(self):
        numbers = row_of_numbers(5)
        depths = set()
        for k in range(300):
            text = drawn_term(numbers, k % 8)
            self.assertTrue(self.check_read(text))
            depths.add(plain_depth(text))
        self.assertGreater(len(depths), 6)

    def test_no_text(self):
        for thing in NO_TEXTS:
            self.check_refused(thing)
            self.assertTrue(self.check_read("sum(a,b)"))

    def test_behind_a_refusal_a_good_text_is_read(self):
        for text in ("", "sum(a,b", left_deep(11), "abcdefghi"):
            self.check_refused(text)
            self.assertEqual(read_term("sum(b,a)").names(), ["a", "b"])

    def test_arguments(self):
        self.check_arguments(read_term, ["text"])
        for term in (read_term("a"), read_term("sum(a,b)")):
            self.check_arguments(term.shown, [])
            self.check_arguments(term.names, [])
            self.check_arguments(term.worth, ["book"])


class NamesTest(TermCase):
    def test_sorted_and_each_once(self):
        for text, names in (
                ("b", ["b"]),
                ("sum(b,a)", ["a", "b"]),
                ("sum(b,b)", ["b"]),
                ("sum(sum(z,ab),most(a,z))", ["a", "ab", "z"]),
                ("left(undo(join,least),sum(least,b))", ["b", "join", "least"]),
                ("most(zz,most(z,most(y,most(zz,x))))", ["x", "y", "z", "zz"])):
            self.assertEqual(read_term(text).names(), names)

    def test_the_list_is_the_askers_own(self):
        for text in ("a", "sum(b,a)"):
            term = read_term(text)
            names = term.names()
            kept = list(names)
            names.append("x")
            names[0] = "y"
            self.assertEqual(term.names(), kept)
            self.assertIsNot(term.names(), term.names())
            self.assertEqual(term.shown(), text)
            self.assertEqual(term.worth(BOOK), read_term(text).worth(BOOK))
            term.names().clear()
            self.assertEqual(term.names(), kept)


class WorthTest(TermCase):
    def test_a_name(self):
        for name, f in BOOK.items():
            self.check_told(name, BOOK, f)

    def test_each_word(self):
        for f in SMALL[::3] + list(SHAPES):
            for g in SMALL[::4] + list(SHAPES):
                book = {"f": f, "g": g}
                for word, function in WORDS.items():
                    expected = function(f, g)
                    if expected is None:
                        self.check_no_worth(f"{word}(f,g)", book, NoEnd)
                    else:
                        self.check_told(f"{word}(f,g)", book, expected)

    def test_written_ones(self):
        book = {"g": heap((3, 1), ONE), "h": heap(ONE, (2, 1)), "k": late((2, 1), (3, 1))}
        for text, expected in (
                ("least(g,h)", "0:1 2:5 +1"), ("most(g,h)", "0:3 2:5 +2"), ("sum(g,h)", "0:4 +3"),
                ("join(k,g)", "0:0 2:0 7/2:9/2 +1"), ("undo(g,k)", "0:5 +1"), ("left(h,g)", "0:0 2:0 +1"),
                ("left(g,h)", "0:2 +0"), ("sum(undo(g,k),g)", "0:8 +2")):
            self.assertEqual(show_curve(read_term(text).worth(book)), expected)

    def test_which_one_is_the_first(self):
        book = {"f": BENT_DOWN, "g": STAIRS}
        self.check_told("undo(f,g)", book, undone(BENT_DOWN, STAIRS))
        self.check_no_worth("undo(g,f)", book, NoEnd)
        self.check_told("left(f,g)", book, left(BENT_DOWN, STAIRS))
        self.check_told("left(g,f)", book, left(STAIRS, BENT_DOWN))
        self.assertNotEqual(left(BENT_DOWN, STAIRS), left(STAIRS, BENT_DOWN))

    def test_names_that_are_words(self):
        self.check_told("least(least,undo)", BOOK, least(BOOK["least"], BOOK["undo"]))
        self.check_told("undo(undo,undo)", BOOK, undone(BOOK["undo"], BOOK["undo"]))
        self.check_told("least", BOOK, BOOK["least"])

    def test_ten_deep(self):
        book = {"a": heap(ONE, ONE), "b": late(ONE, ONE)}
        expected = book["a"]
        for depth in range(10):
            expected = summed(expected, book["b"])
        self.check_told(left_deep(10), book, expected)
        self.check_told(right_deep(10), book, expected)
        for word, function in WORDS.items():
            one = other = book["a"]
            for depth in range(10):
                one = function(one, book["b"])
                other = function(book["b"], other)
            self.check_told(left_deep(10, "a", word), book, one)
            self.check_told(right_deep(10, "a", word), book, other)

    def test_drawn_ones(self):
        numbers = row_of_numbers(7)
        worths = refusals = 0
        for k in range(150):
            text = drawn_term(numbers, 1 + k % 3)
            try:
                expected = plain_worth(text, BOOK)
            except TypeError:
                # None, where something inside was endless, is no curve.
                expected = None
            if expected is None:
                self.check_no_worth(text, BOOK, NoEnd)
                refusals += 1
            else:
                self.check_told(text, BOOK, expected)
                worths += 1
        self.assertGreater(worths, 80)
        self.assertGreater(refusals, 5)

    def test_a_book_may_be_another_one_each_time(self):
        term = read_term("sum(a,b)")
        self.check_curve(term.worth({"a": ZERO, "b": STAIRS}), STAIRS)
        self.check_curve(term.worth({"a": STAIRS, "b": ZERO, "c": BENT_UP}), STAIRS)
        book = {"a": ZERO, "b": ZERO}
        self.check_curve(term.worth(book), ZERO)
        book["a"] = BENT_UP
        self.check_curve(term.worth(book), BENT_UP)

    def test_sixty_names(self):
        names = [chr(97 + k // 10) * 2 + chr(97 + k % 10) for k in range(60)]
        book = {name: heap((k, 1), ONE) for k, name in enumerate(names)}
        terms = names
        while len(terms) > 1:
            terms = [f"sum({one},{other})" for one, other in zip(terms[::2], terms[1::2])] + terms[len(terms) // 2 * 2:]
        self.assertEqual(read_term(terms[0]).names(), names)
        self.check_told(terms[0], book, heap((sum(range(60)), 1), (60, 1)))

    def test_large_ones(self):
        large = {"a": large_curve(1, 20), "b": shape([(0, TINY), (SIXTY, SIXTY_MORE)], SIXTY_MORE),
                 "c": large_curve(2, 5)}
        for text in ("sum(a,b)", "join(a,b)", "left(b,a)", "undo(c,b)", "join(least(a,c),undo(c,b))",
                     "most(b,left(a,c))"):
            self.check_told(text, large, plain_worth(text, large))
        long_ones = {"a": long_curve(1), "b": curve(list(long_curve(2)[0]), (9, 1))}
        for text in ("join(a,b)", "undo(a,b)", "left(join(a,b),a)", "sum(undo(a,b),least(a,b))"):
            self.check_told(text, long_ones, plain_worth(text, long_ones))

    def test_results_handed_in_again(self):
        book = dict(BOOK)
        book["x"] = read_term("join(b,c)").worth(book)
        book["y"] = read_term("undo(a,x)").worth(book)
        self.check_told("left(sum(x,y),y)", book, left(summed(book["x"], book["y"]), book["y"]))


class RefusedTest(TermCase):
    def test_a_name_that_is_not_there(self):
        for text in ("x", "sum(x,a)", "sum(a,x)", "sum(x,y)", "undo(a,sum(b,x))", "left(x,x)", left_deep(10, "x")):
            self.check_no_worth(text, BOOK, NoName)
        for text in ("a", "sum(a,b)", "least(a,a)"):
            self.check_no_worth(text, {}, NoName)
        self.check_no_worth("most(a,sum)", BOOK, NoName)

    def test_the_first_name_from_the_left_that_is_asked_for(self):
        class Asked(dict):
            def __init__(self, book):
                super().__init__(book)
                self.missing = []

            def __contains__(self, name):
                found = super().__contains__(name)
                if not found:
                    self.missing.append(name)
                return found

            def __missing__(self, name):
                self.missing.append(name)
                raise KeyError(name)

        for text, name in (("sum(x,y)", "x"), ("sum(a,sum(y,x))", "y"), ("sum(sum(a,z),x)", "z"), ("left(b,y)", "y"),
                           ("undo(sum(a,undo),sum(w,v))", "w")):
            book = Asked(BOOK)
            with self.assertRaises(NoName):
                read_term(text).worth(book)
            self.assertEqual(book.missing[:1], [name])
            self.assertEqual(set(book.missing), {name})

    def test_what_has_no_end(self):
        for text in ("undo(b,a)", "sum(undo(b,a),a)", "sum(a,undo(b,a))", "undo(undo(b,a),a)", "left(a,undo(b,d))"):
            self.check_no_worth(text, BOOK, NoEnd)
        self.check_no_worth("undo(f,g)", {"f": heap(NOUGHT, told(1 + TINY)), "g": heap(NOUGHT, ONE)}, NoEnd)
        self.check_told("undo(f,g)", {"f": heap(ONE, ONE), "g": late(ONE, ONE)}, heap((2, 1), ONE))

    def test_the_left_term_is_reckoned_first_and_whole(self):
        for text, refusal in (
                ("sum(undo(b,a),x)", NoEnd), ("sum(x,undo(b,a))", NoName),
                ("undo(x,undo(b,a))", NoName), ("undo(undo(b,a),x)", NoEnd),
                ("undo(b,x)", NoName), ("undo(sum(b,b),sum(a,x))", NoName),
                ("sum(sum(a,undo(b,a)),x)", NoEnd), ("sum(sum(a,x),undo(b,a))", NoName),
                ("sum(sum(a,b),sum(undo(b,a),x))", NoEnd), ("sum(sum(a,b),sum(x,undo(b,a)))", NoName),
                ("left(undo(sum(a,b),d),least(x,x))", NoEnd), ("left(undo(sum(a,x),d),undo(b,a))", NoName)):
            self.check_no_worth(text, BOOK, refusal)

    def test_behind_a_refusal_the_term_goes_on(self):
        term = read_term("undo(a,b)")
        with self.assertRaises(NoName):
            term.worth({})
        with self.assertRaises(NoEnd):
            term.worth({"a": STAIRS, "b": BENT_DOWN})
        self.check_curve(term.worth({"a": BENT_DOWN, "b": STAIRS}), undone(BENT_DOWN, STAIRS))


if __name__ == "__main__":
    unittest.main()
