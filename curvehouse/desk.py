"""The desk: it is told rows, keeps curves, houses, streams and stories, and answers each row with a text."""

from curvehouse.curves import heap, value_at
from curvehouse.errors import NoHouse, NoName, NoRow, NoWay
from curvehouse.gaps import tallest, widest
from curvehouse.ratios import NOUGHT
from curvehouse.stories import breach, lack
from curvehouse.terms import is_name, read_term
from curvehouse.texts import read_curve, read_ratio, read_whole, show_curve, show_ratio
from curvehouse.works import check_houses, check_ways, last_end, run

# How many words each row has, the first one with them.
LENGTHS = {
    "curve": 3, "make": 3, "show": 2, "at": 3, "tall": 3, "wide": 3, "house": 2, "stream": 4, "come": 3, "offer": 3,
    "bound": 2, "seen": 2, "kept": 1}


def words_of(row):
    if not isinstance(row, str):
        raise NoRow("a row is a text")
    if row.startswith("curve "):
        # All behind the name is one text, whatever blanks are in it.
        words = row.split(" ", 2)
    else:
        words = row.split(" ")
    if LENGTHS.get(words[0]) != len(words):
        raise NoRow("there is no such row")
    return words


def check_name(word):
    if not is_name(word):
        raise NoName("a name is one to eight small letters")


def show_gap(gap):
    if gap is None:
        return "endless"
    return show_ratio(gap)


def show_gaps(pile, wait):
    return " ".join([show_gap(pile), show_gap(wait)])


class Desk:
    def __init__(self):
        self.book = {}
        self.houses = []
        self.offers = []
        self.streams = []
        self.ways = []
        self.comings = []

    def say(self, row):
        words = words_of(row)
        head = words[0]
        if head == "curve":
            return self.tell_curve(words[1], words[2])
        if head == "make":
            return self.make_curve(words[1], words[2])
        if head == "show":
            return show_curve(self.standing(words[1]))
        if head == "at":
            return self.value_of(words[1], words[2])
        if head == "tall":
            return show_gap(tallest(self.standing(words[1]), self.standing(words[2])))
        if head == "wide":
            return show_gap(widest(self.standing(words[1]), self.standing(words[2])))
        if head == "house":
            return self.tell_house(words[1])
        if head == "stream":
            return self.tell_stream(words[1], words[2], words[3])
        if head == "come":
            return self.tell_coming(words[1], words[2])
        if head == "offer":
            return self.tell_offer(words[1], words[2])
        if head == "bound":
            return self.bound_of(words[1])
        if head == "seen":
            return self.seen_of(words[1])
        return self.who_keeps()

    def standing(self, name):
        # Only names come into the book, so what is no name is not found in it either.
        if name not in self.book:
            raise NoName("no curve stands by the name")
        return self.book[name]

    def tell_curve(self, name, text):
        check_name(name)
        self.book[name] = read_curve(text)
        return "ok"

    def make_curve(self, name, text):
        check_name(name)
        self.book[name] = read_term(text).worth(self.book)
        return "ok"

    def value_of(self, name, time):
        f = self.standing(name)
        return show_ratio(value_at(f, read_ratio(time)))

    def tell_house(self, name):
        house = self.standing(name)
        check_houses([house])
        self.houses.append(house)
        self.offers.append(house)
        return str(len(self.houses) - 1)

    def tell_stream(self, name, first, last):
        f = self.standing(name)
        way = (read_whole(first), read_whole(last))
        check_ways([way], 1, len(self.houses))
        self.streams.append(f)
        self.ways.append(way)
        self.comings.append(heap(NOUGHT, NOUGHT))
        return str(len(self.streams) - 1)

    def tell_coming(self, number, name):
        k = read_whole(number)
        coming = self.standing(name)
        self.check_stream(k)
        self.comings[k] = coming
        return "ok"

    def tell_offer(self, number, name):
        h = read_whole(number)
        offer = self.standing(name)
        if h >= len(self.houses):
            raise NoHouse("no house has the number")
        self.offers[h] = offer
        return "ok"

    def check_stream(self, k):
        if k >= len(self.streams):
            raise NoWay("no stream has the number")

    def bound_of(self, number):
        k = read_whole(number)
        self.check_stream(k)
        # A stream hangs on those ahead of it in rank alone.
        end = last_end(self.houses, self.streams[:k + 1], self.ways[:k + 1])
        return show_gaps(end[1], end[2])

    def seen_of(self, number):
        k = read_whole(number)
        self.check_stream(k)
        coming = self.comings[k]
        leaving = run(self.offers, self.comings[:k + 1], self.ways[:k + 1])[k][-1]
        return show_gaps(tallest(coming, leaving), widest(coming, leaving))

    def who_keeps(self):
        for k, coming in enumerate(self.comings):
            if breach(coming, self.streams[k]) is not None:
                return f"stream {k}"
        for h, offer in enumerate(self.offers):
            if lack(offer, self.houses[h]) is not None:
                return f"house {h}"
        return "yes"
