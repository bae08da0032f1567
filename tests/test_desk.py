import copy
import re
import unittest
from fractions import Fraction

from helper import (
    BENT_BOTH_WAYS, NOUGHT, SIXTY, SIXTY_MORE, STAIRS, TINY, ZERO, CurveCase, Drawn, large_curve, row_of_numbers, shape,
    written, written_curve)

from curvehouse.curves import heap, value_at
from curvehouse.desk import Desk
from curvehouse.errors import CurveError, NoEnd, NoHouse, NoName, NoRow, NoText, NoWay
from curvehouse.gaps import tallest, widest
from curvehouse.joins import joined
from curvehouse.meets import least, summed
from curvehouse.stories import breach, lack
from curvehouse.terms import read_term
from curvehouse.texts import read_curve, read_ratio
from curvehouse.undoing import undone
from curvehouse.works import bounds, ends, run

NO_TEXTS = (None, True, False, 0, 1, SIXTY, 1.5, (), [], {}, b"kept", ("kept",), ["kept"], ["show", "a"], ZERO,
            object())

# The kinds of the words behind the first one: a name, a name by which a curve stands, and the texts.
ROWS = {
    "curve": ("name", "curve"), "make": ("name", "term"), "show": ("stands",), "at": ("stands", "ratio"),
    "tall": ("stands", "stands"), "wide": ("stands", "stands"), "house": ("stands",),
    "stream": ("stands", "whole", "whole"), "come": ("whole", "stands"), "offer": ("whole", "stands"),
    "bound": ("whole",), "seen": ("whole",), "kept": ()}

WORDS = {
    "name": ("a", "b", "c", "abcdefgh", "least"),
    "stands": ("a", "b", "c", "d", "e", "f"),
    "curve": ("0:0 1:0 +3", "0:2 +1", "0:0 2:5 +1/2", "0:1 1:4 2:4 +0", "0:0 +2"),
    "term": ("sum(a,b)", "undo(a,d)", "undo(d,a)", "join(d,e)", "left(d,a)", "x", "sum(x,undo(d,a))", "least(a,c)"),
    "ratio": ("0", "1", "7/2", "1/3", "40"),
    "whole": ("0", "1", "2", "3")}
BAD = ("", "A", "abcdefghi", "a1", "x", "1/2", "01", "-1", "+1", "0:0", "1:0 +1", "sum(a,b", "1" * 61, "12", "\t",
       "a\n")


def show_gap(gap):
    return "endless" if gap is None else written(gap)


class PlainDesk:
    """What a desk is to answer: each kind of word by itself, and then what the row does with all of them."""

    def __init__(self):
        self.book = {}
        self.houses = []
        self.streams = []

    def read(self, kind, word):
        if kind in ("name", "stands"):
            if not re.fullmatch("[a-z]{1,8}", word) or (kind == "stands" and word not in self.book):
                raise NoName
            return word if kind == "name" else self.book[word]
        if kind == "whole":
            if not re.fullmatch("0|[1-9][0-9]{0,59}", word, re.ASCII):
                raise NoText
            return int(word)
        return {"curve": read_curve, "term": read_term, "ratio": read_ratio}[kind](word)

    def say(self, row):
        if not isinstance(row, str):
            raise NoRow
        head = row.split(" ")[0]
        if head not in ROWS:
            raise NoRow
        words = row.split(" ", 2)[1:] if head == "curve" else row.split(" ")[1:]
        if len(words) != len(ROWS[head]):
            raise NoRow
        return getattr(self, head)(*[self.read(kind, word) for kind, word in zip(ROWS[head], words)])

    def curve(self, name, f):
        self.book[name] = f
        return "ok"

    def make(self, name, term):
        return self.curve(name, term.worth(self.book))

    def show(self, f):
        return written_curve(f)

    def at(self, f, t):
        return written(value_at(f, t))

    def tall(self, f, g):
        return show_gap(tallest(f, g))

    def wide(self, f, g):
        return show_gap(widest(f, g))

    def house(self, f):
        if f[0][0][1] != NOUGHT:
            raise NoHouse
        self.houses.append([f, f])
        return str(len(self.houses) - 1)

    def stream(self, f, first, last):
        if not first <= last < len(self.houses):
            raise NoWay
        self.streams.append([f, ZERO, (first, last)])
        return str(len(self.streams) - 1)

    def come(self, k, f):
        self.check(k, self.streams, NoWay)
        self.streams[k][1] = f
        return "ok"

    def offer(self, h, f):
        self.check(h, self.houses, NoHouse)
        self.houses[h][1] = f
        return "ok"

    def check(self, number, things, refusal):
        if number not in range(len(things)):
            raise refusal

    def bound(self, k):
        self.check(k, self.streams, NoWay)
        found = ends([house[0] for house in self.houses], [stream[0] for stream in self.streams],
                     [stream[2] for stream in self.streams])[k]
        return f"{show_gap(found[1])} {show_gap(found[2])}"

    def seen(self, k):
        self.check(k, self.streams, NoWay)
        comings = [stream[1] for stream in self.streams]
        leaving = run([house[1] for house in self.houses], comings, [stream[2] for stream in self.streams])[k][-1]
        return f"{show_gap(tallest(comings[k], leaving))} {show_gap(widest(comings[k], leaving))}"

    def kept(self):
        for k, stream in enumerate(self.streams):
            if breach(stream[1], stream[0]) is not None:
                return f"stream {k}"
        for h, house in enumerate(self.houses):
            if lack(house[1], house[0]) is not None:
                return f"house {h}"
        return "yes"


def name_of(number, first="n"):
    return first + chr(97 + number // 26) + chr(97 + number % 26)


def told_works(works):
    """A desk to which drawn works are told, with their stories."""
    desk = Desk()
    for kind, curves in (("h", works.houses), ("o", works.offers), ("s", works.curves), ("c", works.comings)):
        for number, f in enumerate(curves):
            desk.say(f"curve {name_of(number, kind)} {written_curve(f)}")
    for h in range(len(works.houses)):
        desk.say(f"house {name_of(h, 'h')}")
        desk.say(f"offer {h} {name_of(h, 'o')}")
    for k, way in enumerate(works.ways):
        desk.say(f"stream {name_of(k, 's')} {way[0]} {way[1]}")
        desk.say(f"come {k} {name_of(k, 'c')}")
    return desk


class DeskCase(CurveCase):
    def say(self, desk, row, answer):
        found = desk.say(row)
        self.assertEqual(found, answer, row)
        self.assertIs(type(found), str)

    def say_all(self, desk, rows):
        for row, answer in rows:
            self.say(desk, row, answer)

    def check_refused(self, desk, row, refusal):
        before = self.state(desk)
        with self.assertRaises(CurveError, msg=repr(row)) as taken:
            desk.say(row)
        self.assertIs(type(taken.exception), refusal, repr(row))
        self.assertEqual(self.state(desk), before, repr(row))

    def state(self, desk):
        """All that a desk can be asked; how many houses and streams there are is asked of a copy of it."""
        found = []
        for name in ("a", "b", "c", "d", "e", "f", "x", "abcdefgh", "least", "heap"):
            found.append(self.answer(desk, f"show {name}"))
        other = copy.deepcopy(desk)
        other.say("curve zz 0:0 +1")
        number = int(other.say("house zz"))
        streams = int(other.say(f"stream zz {number} {number}"))
        for k in range(streams):
            found.append((self.answer(desk, f"bound {k}"), self.answer(desk, f"seen {k}")))
        return found + [number, streams, self.answer(desk, "kept")]

    def answer(self, desk, row):
        try:
            return desk.say(row)
        except CurveError as e:
            return type(e)

    def full_desk(self):
        desk = Desk()
        for row in ("curve a 0:6 +1", "curve b 0:2 +1", "curve c 0:1 1:4 +0", "curve d 0:0 2:0 +4",
                    "curve e 0:0 3:0 +5", "curve f 0:0 +9", "house d", "house e", "stream a 0 1", "stream b 1 1",
                    "come 0 c", "offer 1 f"):
            desk.say(row)
        return desk


class AnswersTest(DeskCase):
    def test_curves(self):
        desk = Desk()
        self.say_all(desk, (
            ("curve a 0:3 2:5 +1/2", "ok"), ("show a", "0:3 2:5 +1/2"), ("curve a 0:0 1:1 2:2 +1", "ok"),
            ("show a", "0:0 +1"), ("curve curve 0:0 +0", "ok"), ("show curve", "0:0 +0"),
            ("curve abcdefgh 0:1 +1", "ok"),
            ("show abcdefgh", "0:1 +1"), ("curve show 0:7 +1", "ok"), ("show show", "0:7 +1"), ("show a", "0:0 +1")))

    def test_made_ones(self):
        desk = Desk()
        self.say_all(desk, (
            ("curve g 0:3 +1", "ok"), ("curve h 0:1 +2", "ok"), ("curve k 0:0 2:0 +3", "ok"),
            ("make a least(g,h)", "ok"), ("show a", "0:1 2:5 +1"), ("make a most(g,h)", "ok"),
            ("show a", "0:3 2:5 +2"),
            ("make a sum(g,h)", "ok"), ("show a", "0:4 +3"), ("make a join(k,g)", "ok"),
            ("show a", "0:0 2:0 7/2:9/2 +1"),
            ("make a undo(g,k)", "ok"), ("show a", "0:5 +1"), ("make a left(h,g)", "ok"), ("show a", "0:0 2:0 +1"),
            ("make b g", "ok"), ("show b", "0:3 +1"), ("make a sum(a,a)", "ok"), ("show a", "0:0 2:0 +2"),
            ("make least least(a,g)", "ok"), ("make a least(least,least)", "ok"), ("show a", "0:0 2:0 7:10 +1")))

    def test_a_name_made_of_itself_stays_as_it_was_then(self):
        desk = Desk()
        self.say_all(desk, (
            ("curve a 0:1 +0", "ok"), ("make b a", "ok"), ("curve a 0:2 +0", "ok"), ("show b", "0:1 +0"),
            ("make a sum(a,b)", "ok"), ("show a", "0:3 +0"), ("show b", "0:1 +0")))

    def test_at(self):
        desk = Desk()
        self.say_all(desk, (
            ("curve a 0:3 2:5 +1/2", "ok"), ("at a 0", "3"), ("at a 1", "4"), ("at a 1/2", "7/2"), ("at a 2", "5"),
            ("at a 3", "11/2"), ("at a 1000000", "500004"), ("curve b 0:0 +0", "ok"), ("at b 7/3", "0")))

    def test_tall_and_wide(self):
        desk = Desk()
        self.say_all(desk, (
            ("curve g 0:3 +1", "ok"), ("curve k 0:0 2:0 +3", "ok"), ("curve z 0:0 +0", "ok"), ("curve h 0:1 +0", "ok"),
            ("tall g k", "5"), ("wide g k", "3"), ("tall k g", "endless"), ("wide k g", "endless"), ("tall g g", "0"),
            ("wide g g", "0"), ("tall h z", "1"), ("wide h z", "endless"), ("tall z h", "0"), ("wide z h", "0"),
            ("wide h k", "7/3")))

    def test_houses_and_streams_are_numbered_from_nought_on(self):
        desk = Desk()
        self.say_all(desk, (
            ("curve d 0:0 2:0 +4", "ok"), ("curve a 0:6 +1", "ok"), ("house d", "0"), ("stream a 0 0", "0"),
            ("house d", "1"), ("stream a 0 1", "1"), ("stream a 1 1", "2"), ("house d", "2"), ("house d", "3"),
            ("stream d 0 3", "3"), ("stream a 2 3", "4")))

    def test_bound(self):
        desk = Desk()
        self.say_all(desk, (
            ("curve a 0:6 +1", "ok"), ("curve d 0:0 2:0 +4", "ok"), ("curve e 0:0 3:0 +5", "ok"), ("house d", "0"),
            ("house e", "1"), ("stream a 0 1", "0"), ("bound 0", "11 13/2"), ("curve b 0:2 +1", "ok"),
            ("stream b 1 1", "1"), ("bound 1", "31/4 25/4"), ("bound 0", "11 13/2"), ("curve f 0:0 +3", "ok"),
            ("stream f 0 0", "2"), ("bound 2", "14 14/3"), ("stream f 0 0", "3"), ("bound 3", "endless endless"),
            ("curve g 0:1 +0", "ok"), ("stream g 0 0", "4"), ("bound 4", "1 endless")))

    def test_seen(self):
        desk = Desk()
        self.say_all(desk, (
            ("curve a 0:6 +1", "ok"), ("curve d 0:0 2:0 +4", "ok"), ("curve e 0:0 3:0 +5", "ok"), ("house d", "0"),
            ("house e", "1"), ("stream a 0 1", "0"), ("seen 0", "0 0"), ("come 0 a", "ok"), ("seen 0", "9 21/5"),
            ("curve o 0:0 +9", "ok"), ("offer 1 o", "ok"), ("seen 0", "8 7/2"), ("offer 0 o", "ok"),
            ("seen 0", "6 2/3"),
            ("curve z 0:0 +0", "ok"), ("offer 0 z", "ok"), ("seen 0", "endless endless"), ("curve c 0:1 +0", "ok"),
            ("come 0 c", "ok"), ("seen 0", "1 endless"), ("come 0 z", "ok"), ("seen 0", "0 0"),
            ("stream a 1 1", "1"), ("come 1 a", "ok"), ("seen 1", "6 2/3")))

    def test_kept(self):
        desk = Desk()
        self.say_all(desk, (
            ("kept", "yes"), ("curve d 0:0 2:0 +4", "ok"), ("curve a 0:6 +1", "ok"), ("curve b 0:7 +1", "ok"),
            ("house d", "0"), ("kept", "yes"), ("stream a 0 0", "0"), ("kept", "yes"), ("come 0 a", "ok"),
            ("kept", "yes"),
            ("come 0 b", "ok"), ("kept", "stream 0"), ("offer 0 a", "ok"), ("kept", "stream 0"), ("come 0 a", "ok"),
            ("kept", "house 0"), ("offer 0 d", "ok"), ("kept", "yes"), ("house d", "1"), ("house d", "2"),
            ("offer 2 a", "ok"), ("kept", "house 2"), ("offer 1 a", "ok"), ("kept", "house 1"), ("stream a 0 2", "1"),
            ("stream a 1 2", "2"), ("come 2 b", "ok"), ("kept", "stream 2"), ("come 1 b", "ok"), ("kept", "stream 1")))

    def test_a_house_that_does_not_keep_above_itself(self):
        desk = Desk()
        self.say_all(desk, (
            ("curve d 0:0 1:3 +1", "ok"), ("curve e 0:0 +1", "ok"), ("house e", "0"), ("house d", "1"),
            ("kept", "house 1"), ("curve o 0:0 +3", "ok"), ("offer 1 o", "ok"), ("kept", "yes")))

    def test_a_stream_keeps_with_no_story(self):
        desk = Desk()
        self.say_all(desk, (
            ("curve d 0:0 +4", "ok"), ("curve z 0:0 +0", "ok"), ("curve s 0:0 2:0 +3", "ok"), ("house d", "0"),
            ("stream z 0 0", "0"), ("stream s 0 0", "1"), ("kept", "yes"), ("seen 0", "0 0"), ("seen 1", "0 0"),
            # As a story this one does not keep within itself.
            ("come 1 s", "ok"), ("kept", "stream 1")))

    def test_arguments(self):
        self.check_arguments(Desk, [])
        self.check_arguments(Desk().say, ["row"])


class KeptByNameTest(DeskCase):
    """A house, a stream and a story keep the curve that stood by the name when they were told."""

    def test_a_name_told_anew(self):
        desk = Desk()
        for row in ("curve d 0:0 2:0 +4", "curve a 0:6 +1", "curve c 0:5 +1", "curve o 0:0 1:0 +4", "house d",
                    "stream a 0 0", "come 0 c", "offer 0 o"):
            desk.say(row)
        asked = ("bound 0", "seen 0", "kept")
        before = [desk.say(row) for row in asked]
        self.assertEqual(before, ["8 7/2", "6 9/4", "yes"])
        for name in "daco":
            self.say(desk, f"curve {name} 0:0 +0", "ok")
            self.assertEqual([desk.say(row) for row in asked], before)
            self.say(desk, f"make {name} sum({name},{name})", "ok")
            self.assertEqual([desk.say(row) for row in asked], before)
        self.say(desk, "come 0 c", "ok")
        self.say(desk, "seen 0", "0 0")

    def test_an_offer_that_was_not_told_stays_the_house_s_own(self):
        desk = Desk()
        self.say_all(desk, (
            ("curve d 0:0 +2", "ok"), ("curve a 0:4 +0", "ok"), ("house d", "0"), ("stream a 0 0", "0"),
            ("come 0 a", "ok"), ("seen 0", "4 2"), ("curve d 0:0 +1", "ok"), ("seen 0", "4 2"), ("kept", "yes"),
            ("offer 0 d", "ok"), ("seen 0", "4 4"), ("kept", "house 0")))


class TwoDesksTest(DeskCase):
    def test_two_desks_know_nothing_of_each_other(self):
        one = self.full_desk()
        other = Desk()
        before = self.state(one)
        self.check_refused(other, "show a", NoName)
        self.check_refused(other, "bound 0", NoWay)
        self.say_all(other, (("curve a 0:0 +1", "ok"), ("house a", "0"), ("stream a 0 0", "0"), ("kept", "yes"),
                             ("come 0 a", "ok"), ("curve d 0:9 +9", "ok"), ("offer 0 d", "ok")))
        self.assertEqual(self.state(one), before)
        before = self.state(other)
        self.say(one, "house d", "2")
        self.say(one, "come 0 b", "ok")
        self.say(one, "curve a 0:0 +0", "ok")
        self.assertEqual(self.state(other), before)
        self.check_refused(Desk(), "show a", NoName)
        self.assertEqual(self.state(Desk())[-3:], [0, 0, "yes"])


class RowsTest(DeskCase):
    """Rows that are none."""

    def test_no_text(self):
        for desk in (Desk(), self.full_desk()):
            for thing in NO_TEXTS:
                self.check_refused(desk, thing, NoRow)

    def test_no_such_row(self):
        for desk in (Desk(), self.full_desk()):
            for row in ("", " ", "  ", "\n", "\t", "a", "shows a", "sho a", "Show a", "SHOW a", "curves a 0:0 +1",
                        "heap a",
                        "0", "ok", "yes", "help", "kept\n", "\nkept", "kept\t", "show\ta", "show\na",
                        "curve\ta 0:0 +1",
                        "curve\na 0:0 +1", "least(a,b)", "0:0 +1", "bounds 0", "see 0", "tallest a b", "quit",
                        "bound\t0", "make(a)"):
                self.check_refused(desk, row, NoRow)

    def test_a_word_too_few_and_too_many(self):
        good = {"make": "make x sum(a,b)", "show": "show a", "at": "at a 1", "tall": "tall a b", "wide": "wide a b",
                "house": "house d", "stream": "stream a 0 1", "come": "come 0 a", "offer": "offer 0 d",
                "bound": "bound 0", "seen": "seen 0", "kept": "kept"}
        for head, row in good.items():
            desk = self.full_desk()
            words = row.split(" ")
            for count in range(1, len(words)):
                self.check_refused(desk, " ".join(words[:count]), NoRow)
            for more in (" a", " 0", " a b", " 0 0", " kept"):
                self.check_refused(desk, row + more, NoRow)
                if len(words) > 1:
                    self.check_refused(desk, more[1:] + " " + row, NoRow)
            self.assertEqual(self.answer(desk, row), self.answer(self.full_desk(), row))
        desk = self.full_desk()
        self.check_refused(desk, "curve", NoRow)
        self.check_refused(desk, "curve a", NoRow)
        self.check_refused(desk, "curve X", NoRow)
        self.check_refused(desk, "curvea 0:0 +1", NoRow)

    def test_two_blanks_side_by_side_and_one_at_an_end(self):
        desk = self.full_desk()
        for row in ("make x sum(a,b)", "show a", "at a 1", "tall a b", "wide a b", "house d", "stream a 0 1",
                    "come 0 a",
                    "offer 0 d", "bound 0", "seen 0", "kept"):
            self.check_refused(desk, " " + row, NoRow)
            self.check_refused(desk, row + " ", NoRow)
            self.check_refused(desk, row + "  ", NoRow)
            for place, sign in enumerate(row):
                if sign == " ":
                    self.check_refused(desk, row[:place] + " " + row[place:], NoRow)
        self.check_refused(desk, " curve a 0:0 +1", NoRow)
        self.check_refused(desk, "  curve a 0:0 +1", NoRow)

    def test_a_word_without_signs_in_the_place_of_one(self):
        desk = self.full_desk()
        for row, refusal in (
                ("make  sum(a,b)", NoName), ("make x ", NoText), ("show ", NoName), ("at  1", NoName),
                ("at a ", NoText),
                ("tall  b", NoName), ("tall a ", NoName), ("wide  b", NoName), ("wide a ", NoName), ("house ", NoName),
                ("stream  0 1", NoName), ("stream a  1", NoText), ("stream a 0 ", NoText), ("come  a", NoText),
                ("come 0 ", NoName), ("offer  d", NoText), ("offer 0 ", NoName), ("bound ", NoText), ("seen ", NoText),
                ("kept ", NoRow), ("curve  0:0 +1", NoName), ("curve  ", NoName), ("make  ", NoName),
                ("tall  ", NoName),
                ("stream   ", NoName), ("at  ", NoName), ("come  ", NoText), ("offer  ", NoText)):
            self.check_refused(desk, row, refusal)

    def test_the_text_of_a_curve(self):
        desk = self.full_desk()
        # All behind the blank behind the name is the text: none at all, and blanks at its ends.
        for row in ("curve a ", "curve a  ", "curve a  0:0 +1", "curve a 0:0  +1", "curve a 0:0 +1 ", "curve a +1",
                    "curve a 0:0", "curve a 0:0 +1\n", "curve a \t0:0 +1", "curve a 1:0 +1", "curve a 0:1 1:0 +1",
                    "curve a b", "curve x ", "curve a 0:0 +2/4", "curve a sum(a,b)", "curve a 0:0 1:1 1:2 +1"):
            self.check_refused(desk, row, NoText)
        self.check_refused(desk, "curve a", NoRow)
        self.check_refused(desk, "curve  a 0:0 +1", NoName)
        self.say(desk, "curve a 0:0 1:1 2:3 +1", "ok")
        self.say(desk, "show a", "0:0 1:1 2:3 +1")


class RefusedTest(DeskCase):
    def test_names(self):
        desk = self.full_desk()
        for bad in ("A", "abcdefghi", "a1", "1", "a_b", "a\n", "\ta", "a,b", "sum(a,b)", "~", "", "a-b", "0:0"):
            for row in (f"curve {bad} 0:0 +1", f"make {bad} a", f"show {bad}", f"at {bad} 1", f"tall {bad} a",
                        f"tall a {bad}", f"wide {bad} a", f"wide a {bad}", f"house {bad}", f"stream {bad} 0 1",
                        f"come 0 {bad}", f"offer 0 {bad}"):
                self.check_refused(desk, row, NoName)

    def test_names_by_which_no_curve_stands(self):
        desk = self.full_desk()
        for row in ("show x", "at x 1", "tall x a", "tall a x", "wide x a", "wide a x", "house x", "stream x 0 1",
                    "come 0 x", "offer 0 x", "show least", "house heap", "make x y", "make a sum(a,y)",
                    "make x x", "show abcdefgh"):
            self.check_refused(desk, row, NoName)
        self.say(desk, "curve x 0:0 +1", "ok")
        self.say(desk, "show x", "0:0 +1")

    def test_numbers(self):
        desk = self.full_desk()
        for bad in ("", "01", "-1", "+1", "a", "1.0", "1/1", "2/4", "1" * 61, "1\n", "\t1", "0/1", "1:1"):
            for row in (f"at a {bad}", f"stream a {bad} 1", f"stream a 0 {bad}", f"come {bad} a", f"offer {bad} d",
                        f"bound {bad}", f"seen {bad}"):
                self.check_refused(desk, row, NoText)
        # A ratio, but no whole number.
        for row in ("stream a 1/2 1", "stream a 0 1/2", "come 1/2 a", "offer 3/2 d", "bound 1/2", "seen 7/3"):
            self.check_refused(desk, row, NoText)
        self.say(desk, "at a 1/2", "13/2")

    def test_terms(self):
        desk = self.full_desk()
        for bad in ("", "A", "sum(a", "sum(a,b))", "sum(a,b,c)", "abcdefghi", "sum(" * 11 + "a" + ",a)" * 11, "0:0",
                    "1",
                    "min(a,b)", "sum(a,\tb)"):
            self.check_refused(desk, f"make x {bad}", NoText)
        self.say(desk, "make x " + "least(" * 10 + "a" + ",a)" * 10, "ok")
        self.say(desk, "show x", "0:6 +1")

    def test_what_a_term_is_refused_with(self):
        desk = self.full_desk()
        for row, refusal in (
                ("make x y", NoName), ("make a undo(d,a)", NoEnd), ("make x undo(d,a)", NoEnd),
                ("make x sum(undo(d,a),y)", NoEnd), ("make x sum(y,undo(d,a))", NoName), ("make x undo(y,a)", NoName)):
            self.check_refused(desk, row, refusal)
        self.say(desk, "make x undo(a,d)", "ok")
        self.say(desk, "show x", "0:8 +1")

    def test_houses(self):
        desk = self.full_desk()
        for name in "abc":
            self.check_refused(desk, f"house {name}", NoHouse)
        self.say(desk, f"curve x 0:1/{SIXTY} +1", "ok")
        self.check_refused(desk, "house x", NoHouse)
        for number in (2, 3, 12, SIXTY):
            self.check_refused(desk, f"offer {number} d", NoHouse)
        self.say(desk, "house d", "2")
        self.say(desk, "offer 2 a", "ok")
        self.check_refused(desk, "offer 3 a", NoHouse)
        self.check_refused(Desk(), "show a", NoName)

    def test_ways(self):
        desk = self.full_desk()
        for way in ("1 0", "0 2", "2 2", "1 2", "12 12", f"0 {SIXTY}", f"{SIXTY} 0", f"{SIXTY} {SIXTY}"):
            self.check_refused(desk, f"stream a {way}", NoWay)
        for number in (2, 3, 12, SIXTY):
            self.check_refused(desk, f"come {number} a", NoWay)
            self.check_refused(desk, f"bound {number}", NoWay)
            self.check_refused(desk, f"seen {number}", NoWay)
        self.say(desk, "stream a 1 1", "2")
        self.check_refused(desk, "bound 3", NoWay)
        empty = Desk()
        self.say(empty, "curve a 0:0 +1", "ok")
        for row in ("stream a 0 0", "come 0 a", "bound 0", "seen 0"):
            self.check_refused(empty, row, NoWay)
        self.check_refused(empty, "offer 0 a", NoHouse)

    def test_two_faults_in_one_row(self):
        desk = self.full_desk()
        for row, refusal in (
                ("curve A 0:0", NoName), ("curve A ", NoName), ("curve  ", NoName), ("curve A", NoRow),
                ("make A sum(", NoName), ("make A y", NoName), ("make A undo(d,a)", NoName), ("make x sum(y", NoText),
                ("at x 01", NoName), ("at A -1", NoName), ("at a 01 x", NoRow), ("at x", NoRow),
                ("tall x A", NoName), ("tall A", NoRow),
                ("house A b", NoRow), ("stream x 01 1", NoName), ("stream x 5 1", NoName), ("stream A 1 01", NoName),
                ("stream a 01 x", NoText), ("stream a 5 01", NoText), ("stream a 1 0 0", NoRow),
                ("stream x 1 0", NoName),
                ("stream a 1/2 0", NoText),
                ("come 01 x", NoText), ("come 9 x", NoName), ("come 9 A", NoName), ("come x x", NoText),
                ("come 9", NoRow),
                ("come a 0", NoText), ("offer 01 x", NoText), ("offer 9 x", NoName), ("offer 9 A", NoName),
                ("offer d 0", NoText), ("offer 1/2 x", NoText), ("bound 01 a", NoRow), ("bound 9/3", NoText),
                ("seen 9 9", NoRow), ("seen 10/2", NoText), ("kept x", NoRow), ("show A B", NoRow)):
            self.check_refused(desk, row, refusal)

    def test_behind_a_refusal_all_goes_on(self):
        desk = self.full_desk()
        for row in ("house a", "stream a 1 0", "come 7 a", "offer 7 a", "make a undo(d,a)", "curve a 1:0 +1",
                    "kept now"):
            with self.assertRaises(CurveError):
                desk.say(row)
        self.say_all(desk, (("show a", "0:6 +1"), ("house d", "2"), ("stream a 0 2", "2"), ("bound 0", "11 13/2")))


class DrawnRowsTest(DeskCase):
    """Rows of good words and bad ones, as they come, against a desk that is written another way."""

    def drawn_row(self, numbers):
        head = list(ROWS)[next(numbers) % len(ROWS)]
        words = []
        for kind in ROWS[head]:
            choice = WORDS[kind] if next(numbers) % 8 else BAD + WORDS["name"] + WORDS["whole"]
            words.append(choice[next(numbers) % len(choice)])
        if next(numbers) % 30 == 0:
            words.append(BAD[next(numbers) % len(BAD)])
        if next(numbers) % 30 == 0:
            words = words[:-1]
        row = " ".join([head] + words)
        return row if next(numbers) % 30 else row.replace(" ", "  ", 1)

    def test_drawn_rows(self):
        counts = {}
        for seed in range(1, 13):
            numbers = row_of_numbers(seed)
            desk = Desk()
            plain = PlainDesk()
            for name, text in zip("abcdef", ("0:6 +1", "0:2 +1", "0:1 1:4 +0", "0:0 2:0 +4", "0:0 3:0 +5", "0:0 +9")):
                self.say(desk, f"curve {name} {text}", plain.say(f"curve {name} {text}"))
            for k in range(150):
                row = self.drawn_row(numbers)
                if self.is_too_much(row, plain):
                    continue
                found = self.answer(desk, row)
                self.assertEqual(found, self.answer(plain, row), (seed, k, row))
                kind = found if isinstance(found, type) else row.split(" ")[0]
                counts[kind] = counts.get(kind, 0) + 1
        for kind in (NoRow, NoName, NoText, NoEnd, NoHouse, NoWay) + tuple(ROWS):
            self.assertGreater(counts[kind], 5, kind)

    def is_too_much(self, row, plain):
        """Beyond the bounds of a desk: too many houses, too many streams, a made curve of too many corners."""
        full = {"house": len(plain.houses) >= 6, "stream": len(plain.streams) >= 6}
        longest = max(len(f[0]) for f in plain.book.values())
        return full.get(row.split(" ")[0], False) or (longest > 20 and not row.startswith("curve"))


class LargeTest(DeskCase):
    def test_twelve_houses_twelve_streams_and_sixty_names(self):
        works = Drawn(2, 12, 12, 9)
        desk = told_works(works)
        for k in range(12):
            self.say(desk, f"curve {name_of(k, 'x')} 0:{k} +{k}", "ok")
        for k in range(12):
            self.say(desk, f"show {name_of(k, 'x')}", f"0:{k} +{k}")
            self.say(desk, f"show {name_of(k, 'h')}", written_curve(works.houses[k]))
        leavings = run(works.offers, works.comings, works.ways)
        for k, end in enumerate(ends(works.houses, works.curves, works.ways)):
            self.say(desk, f"bound {k}", f"{show_gap(end[1])} {show_gap(end[2])}")
            coming = works.comings[k]
            leaving = leavings[k][-1]
            self.say(desk, f"seen {k}", f"{show_gap(tallest(coming, leaving))} {show_gap(widest(coming, leaving))}")
        self.say(desk, "kept", "yes")
        self.check_refused(desk, "bound 12", NoWay)
        self.check_refused(desk, "offer 12 haa", NoHouse)
        self.check_refused(desk, "stream saa 0 12", NoWay)

    def test_no_house_is_refused_for_being_one_too_many(self):
        desk = Desk()
        self.say(desk, "curve a 0:0 +1", "ok")
        for number in range(13):
            self.say(desk, "house a", str(number))
        for number in range(13):
            self.say(desk, "stream a 12 12", str(number))

    def test_sixty_figures(self):
        most = str(SIXTY_MORE)
        desk = Desk()
        house = shape([(0, 0), (SIXTY, 0), (SIXTY_MORE, 3)], SIXTY_MORE)
        f = shape([(0, SIXTY), (TINY, SIXTY + 1)], TINY)
        self.say(desk, f"curve d {written_curve(house)}", "ok")
        self.say(desk, f"curve a {written_curve(f)}", "ok")
        self.say(desk, f"curve b 0:{most} +1/{most}", "ok")
        self.say(desk, f"at b {most}", str(SIXTY_MORE + 1))
        self.say(desk, f"at b 1/{SIXTY}", written(value_at(heap((SIXTY_MORE, 1), (1, SIXTY_MORE)), (1, SIXTY))))
        for row in ("house d", "house d", "stream a 0 1", "stream b 1 1", "come 0 a", "come 1 b"):
            desk.say(row)
        found = ends([house, house], [f, heap((SIXTY_MORE, 1), (1, SIXTY_MORE))], [(0, 1), (1, 1)])
        self.say(desk, "bound 0", f"{written(found[0][1])} {written(found[0][2])}")
        self.say(desk, "bound 1", f"{show_gap(found[1][1])} {show_gap(found[1][2])}")
        self.say(desk, "make x join(d,undo(a,d))", "ok")
        self.say(desk, "show x", written_curve(joined(house, undone(f, house))))
        self.say(desk, "kept", "yes")

    def test_sixty_corners(self):
        desk = Desk()
        f = shape([(k, 10 * k - Fraction(k * k, 20)) for k in range(60)], 1)
        house = shape([(k, k * k) for k in range(60)], 200)
        self.say(desk, f"curve a {written_curve(f)}", "ok")
        self.say(desk, f"curve d {written_curve(house)}", "ok")
        self.say(desk, "show a", written_curve(f))
        for row in ("house d", "stream a 0 0", "come 0 a"):
            desk.say(row)
        self.say(desk, "bound 0", f"{written(tallest(f, house))} {written(widest(f, house))}")
        self.say(desk, "seen 0", f"{written(tallest(f, house))} {written(widest(f, house))}")
        self.say(desk, "kept", "yes")

    def test_results_told_again(self):
        desk = Desk()
        self.say(desk, f"curve a {written_curve(BENT_BOTH_WAYS)}", "ok")
        self.say(desk, f"curve d {written_curve(STAIRS)}", "ok")
        self.say(desk, "make x join(a,d)", "ok")
        text = desk.say("show x")
        self.say(desk, "curve y " + text, "ok")
        self.say(desk, "show y", text)
        self.say(desk, "make z left(sum(x,y),x)", "ok")
        self.say(desk, "show z", desk.say("show y"))
        self.say(desk, "at a " + desk.say("tall a d"),
                 written(value_at(BENT_BOTH_WAYS, tallest(BENT_BOTH_WAYS, STAIRS))))

    def test_large_made_ones(self):
        desk = Desk()
        f = large_curve(1, 6)
        g = large_curve(2, 6)
        self.say(desk, f"curve a {written_curve(f)}", "ok")
        self.say(desk, f"curve b {written_curve(g)}", "ok")
        for word, function in (("join", joined), ("sum", summed), ("least", least)):
            self.say(desk, f"make x {word}(a,b)", "ok")
            self.say(desk, "show x", written_curve(function(f, g)))


class PromiseTest(DeskCase):
    """Where all is kept, what is seen is not above what is bound: at each house and on the whole way."""

    def check_seen(self, desk, streams):
        """Tells how many bounds there are, how many are met just, and how many have no end."""
        self.say(desk, "kept", "yes")
        counts = []
        for k in range(streams):
            for seen, bound in zip(desk.say(f"seen {k}").split(" "), desk.say(f"bound {k}").split(" ")):
                if bound == "endless":
                    counts.append("endless")
                    continue
                self.assertLessEqual(Fraction(seen), Fraction(bound))
                counts.append("just" if seen == bound else "less")
        return counts

    def check_houses(self, works):
        """Each house by itself, too."""
        found = bounds(works.houses, works.curves, works.ways)
        for coming, row, told_bounds in zip(works.comings, run(works.offers, works.comings, works.ways), found):
            for here, leaving, bound in zip([coming] + row[:-1], row, told_bounds):
                for gap, most in ((tallest(here, leaving), bound[2]), (widest(here, leaving), bound[3])):
                    if most is not None:
                        self.assertLessEqual(Fraction(*gap), Fraction(*most))

    def test_drawn_works(self):
        counts = []
        for seed in range(1, 61):
            works = Drawn(seed, 1 + seed % 4, 1 + seed % 5, 1 + seed % 3)
            counts += self.check_seen(told_works(works), len(works.curves))
            self.check_houses(works)
        self.assertGreater(counts.count("just"), 20)
        self.assertGreater(counts.count("less"), 100)
        self.assertGreater(counts.count("endless"), 20)

    def test_curves_that_leave_room(self):
        for seed in range(1, 31):
            works = Drawn(seed, 1 + seed % 4, 1 + seed % 4, 4).with_room(seed)
            self.check_seen(told_works(works), len(works.curves))
            self.check_houses(works)

    def test_twelve_houses_and_twelve_streams(self):
        works = Drawn(3, 12, 12, 9)
        self.assertGreater(self.check_seen(told_works(works), 12).count("less"), 10)
        works.ways = [(0, 11)] * 12
        self.check_seen(told_works(works), 12)

    def test_stories_told_one_behind_the_other(self):
        works = Drawn(7, 3, 4, 5)
        desk = Desk()
        for house in works.houses:
            desk.say(f"curve d {written_curve(house)}")
            desk.say("house d")
        for f, way in zip(works.curves, works.ways):
            desk.say(f"curve a {written_curve(f)}")
            desk.say(f"stream a {way[0]} {way[1]}")
        self.check_seen(desk, 4)
        for h, offer in enumerate(works.offers):
            desk.say(f"curve o {written_curve(offer)}")
            desk.say(f"offer {h} o")
            self.check_seen(desk, 4)
        for k, coming in enumerate(works.comings):
            desk.say(f"curve c {written_curve(coming)}")
            desk.say(f"come {k} c")
            self.check_seen(desk, 4)

    def test_a_story_that_does_not_keep_may_be_seen_above(self):
        desk = Desk()
        self.say_all(desk, (
            ("curve d 0:0 2:0 +4", "ok"), ("curve a 0:6 +1", "ok"), ("curve c 0:9 +1", "ok"), ("house d", "0"),
            ("stream a 0 0", "0"), ("come 0 c", "ok"), ("bound 0", "8 7/2"), ("seen 0", "11 17/4"),
            ("kept", "stream 0")))

    def test_one_house_is_reached_where_all_is_round(self):
        for seed in range(1, 21):
            works = Drawn(seed, 1, 3, 4)
            works.offers = works.houses
            works.comings = works.curves
            works.ways = [(0, 0)] * 3
            self.assertNotIn("less", self.check_seen(told_works(works), 3))


if __name__ == "__main__":
    unittest.main()
