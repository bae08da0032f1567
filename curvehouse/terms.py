"""Terms: curves made of curves that stand by names."""

from curvehouse.errors import NoEnd, NoName, NoText
from curvehouse.joins import joined
from curvehouse.meets import least, most, summed
from curvehouse.rests import left
from curvehouse.texts import check_text
from curvehouse.undoing import undone

LETTERS = "abcdefghijklmnopqrstuvwxyz"
LONGEST_NAME = 8
WORDS = ("least", "most", "sum", "join", "undo", "left")
DEEPEST = 10


class Term:
    # A name by itself; what a word makes of two terms stands under it.
    def __init__(self, text):
        self.text = text

    def shown(self):
        return self.text

    def names(self):
        return [self.text]

    def worth(self, book):
        if self.text not in book:
            raise NoName("no curve stands by a name of the term")
        return book[self.text]


class WordTerm(Term):
    def __init__(self, word, one, other):
        Term.__init__(self, "".join([word, "(", one.shown(), ",", other.shown(), ")"]))
        self.word = word
        self.one = one
        self.other = other

    def names(self):
        return sorted(set(self.one.names() + self.other.names()))

    def worth(self, book):
        first = self.one.worth(book)
        second = self.other.worth(book)
        return made(self.word, first, second)


def made(word, f, g):
    if word == "least":
        return least(f, g)
    if word == "most":
        return most(f, g)
    if word == "sum":
        return summed(f, g)
    if word == "join":
        return joined(f, g)
    if word == "undo":
        return ended(undone(f, g))
    return left(f, g)


def ended(found):
    if found is None:
        raise NoEnd("what is undone has no end")
    return found


def read_term(text):
    check_text(text)
    return term_of(text, DEEPEST)


def term_of(text, room):
    # The room is how many brackets deep the term may be.
    if is_name(text):
        return Term(text)
    parts = text.partition("(")
    if parts[0] not in WORDS or not text.endswith(")") or room == 0:
        raise NoText("a term is a name, or a word with two terms, at most ten brackets deep")
    inner = parts[2][:-1]
    comma = middle_comma(inner)
    one = term_of(inner[:comma], room - 1)
    return WordTerm(parts[0], one, term_of(inner[comma + 1:], room - 1))


def middle_comma(text):
    # The first comma outside of all brackets; what is wrong with the rest shows when both sides are read.
    depth = 0
    for place, sign in enumerate(text):
        if sign == "," and depth == 0:
            return place
        if sign == "(":
            depth += 1
        if sign == ")":
            depth -= 1
    raise NoText("two terms are parted by a comma")


def is_name(text):
    if len(text) == 0 or len(text) > LONGEST_NAME:
        return False
    return all([sign in LETTERS for sign in text])
