"""A desk that keeps a great tree, dates, prices and small trees, and answers lines.

What begins with say_ answers a line of the desk, of the words behind the
first; it changes the desk only when nothing of the line is left to be refused.
"""

from treewithin.crossings import crossings
from treewithin.dating import dated
from treewithin.errors import NoLine, NoText, NoWay
from treewithin.greats import best_great, words_of
from treewithin.grounds import ground
from treewithin.marking import marks, shared
from treewithin.numbers import how_many, place_of, way_at
from treewithin.reading import MOST_FIGURES, read_dates, read_number, read_tree, read_way
from treewithin.several import together
from treewithin.showing import show_dates, show_way
from treewithin.tables import least
from treewithin.times import in_time
from treewithin.trees import is_great, is_small, leaves, text_of
from treewithin.ways import DEEDS

DONE = "done"
NONE = "none"
FIRST_PRICES = (0, 2, 3, 1)
MOST_PRICE = 1000
MOST_SMALLS = 4
MOST_LEAVES = 10
MOST_WORDS = 5
FIGURES_OF_PLACES = 9


def say_dates(desk, words):
    """Sets the dates, or takes them back."""
    if words[0] == "-":
        desk.stays = ground(desk.great)
    else:
        desk.stays = dated(desk.great, read_dates(desk.great, words[0]))
    return DONE


def say_prices(desk, words):
    """Sets the prices."""
    prices = tuple([read_number(word, MOST_FIGURES) for word in words])
    if max(prices) > MOST_PRICE:
        raise NoLine("a price is too great")
    desk.prices = prices
    return DONE


def say_small(desk, words):
    """A small tree more: how many there are."""
    tree = read_tree(words[0])
    if not is_small(desk.great, tree):
        raise NoLine("it isn't a small tree of the desk's great one")
    if len(leaves(tree)) > MOST_LEAVES or len(desk.smalls) == MOST_SMALLS:
        raise NoLine("there are too many leaves or too many small trees")
    desk.smalls = desk.smalls + (tree,)
    return str(len(desk.smalls))


def say_drop(desk, words):
    """The last small tree is taken back: how many are left."""
    desk.smalls = desk.smalls[:-1]
    return str(len(desk.smalls))


def say_cost(desk, words):
    """What the least ways cost."""
    return str(least(desk.stays, desk.smalls[-1], desk.prices))


def say_many(desk, words):
    """How many least ways there are."""
    return str(how_many(desk.stays, desk.smalls[-1], desk.prices))


def way_found(desk, stays, words):
    """The least way on a ground at the place that is written, None where there are not so many."""
    place = read_number(words[0], FIGURES_OF_PLACES)
    try:
        return way_at(stays, desk.smalls[-1], desk.prices, place)
    except NoWay:
        return None


def say_way(desk, words):
    """The least way at a place."""
    way = way_found(desk, desk.stays, words)
    return NONE if way is None else show_way(way)


def say_place(desk, words):
    """The place of a way among the least ones."""
    small = desk.smalls[-1]
    place = place_of(desk.stays, small, desk.prices, read_way(desk.stays, small, words[0]))
    return NONE if place is None else str(place)


def in_colons(parts):
    """The parts of one thing told, colons between."""
    return ":".join([str(part) for part in parts])


def in_blanks(texts):
    """The texts of all that is told, blanks between, a dash for none."""
    return " ".join(texts) if texts else "-"


def say_shared(desk, words):
    """The marks that all least ways have."""
    return in_blanks([in_colons(mark) for mark in shared(desk.stays, desk.smalls[-1], desk.prices)])


def say_marks(desk, words):
    """The marks that some least way has, and how many have it."""
    told = marks(desk.stays, desk.smalls[-1], desk.prices)
    return in_blanks([in_colons(mark + (many,)) for mark, many in told])


def say_cross(desk, words):
    """The crossings of a deed."""
    if words[0] not in DEEDS:
        raise NoLine("it isn't a deed that has a price")
    rows = crossings(desk.stays, desk.smalls[-1], desk.prices, words[0])
    return in_blanks([f"{n}:{p}/{q}" for n, p, q in rows])


def say_time(desk, words):
    """Whether the least way at a place, without dates, fits into time."""
    way = way_found(desk, ground(desk.great), words)
    if way is None:
        return NONE
    told = in_time(desk.great, desk.smalls[-1], way)
    if told[0] == "dates":
        return in_blanks([told[0], show_dates(told[1])])
    return in_blanks([told[0]] + [in_colons(moment) for moment in told[1]])


def say_together(desk, words):
    """What the least ways of all small trees cost, and how many choices there are."""
    return in_blanks([str(number) for number in together(desk.stays, desk.smalls, desk.prices)])


def say_best(desk, words):
    """What the best great trees for all small trees cost, and these."""
    if len(words_of(desk.smalls)) > MOST_WORDS:
        raise NoLine("there are too many words")
    best = best_great(desk.smalls, desk.prices)
    return in_blanks([str(best[0])] + [text_of(tree) for tree in best[1]])


# Each line's first word, with what answers it, how many words stand behind, and whether there has to be a small tree.
LINES = {
    "dates": (say_dates, 1, False),
    "prices": (say_prices, 4, False),
    "small": (say_small, 1, False),
    "drop": (say_drop, 0, True),
    "cost": (say_cost, 0, True),
    "many": (say_many, 0, True),
    "way": (say_way, 1, True),
    "place": (say_place, 1, True),
    "shared": (say_shared, 0, True),
    "marks": (say_marks, 0, True),
    "cross": (say_cross, 1, True),
    "time": (say_time, 1, True),
    "together": (say_together, 0, True),
    "best": (say_best, 0, True),
}


def answer(desk, words):
    """What the desk answers to a line's words."""
    if words[0] not in LINES:
        raise NoLine("there is no such line")
    line = LINES[words[0]]
    if len(words) != line[1] + 1:
        raise NoLine("there are too few words or too many")
    if line[2] and not desk.smalls:
        raise NoLine("there is no small tree")
    return line[0](desk, words[1:])


class Desk:
    """A desk of a great tree, whose text it is made with; great, stays, prices and smalls are what it keeps."""

    def __init__(self, great):
        tree = read_tree(great)
        if not is_great(tree):
            raise NoLine("it isn't a great tree")
        self.great = tree
        self.stays = ground(tree)
        self.prices = FIRST_PRICES
        self.smalls = ()

    def say(self, line):
        """The answer to a line; refused with NoLine, whatever the line is."""
        if not isinstance(line, str):
            raise NoLine("it is no text")
        try:
            return answer(self, line.split(" "))
        except NoText:
            raise NoLine("it isn't so written") from None
