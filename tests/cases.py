"""Grounds, small trees and prices that several tests go through."""

from things import GREATS
from treewithin.dating import dated
from treewithin.grounds import ground
from treewithin.numbers import how_many, way_at
from treewithin.trees import leaves, nodes

MOST = 10 ** 30 - 1
PRICES = (
    (0, 2, 3, 1), (0, 0, 0, 0), (1, 0, 0, 0), (0, 1, 0, 0), (0, 0, 1, 0), (0, 0, 0, 1), (5, 1, 1, 1), (1, 7, 2, 0),
    (3, 1, 9, 2), (9, 9, 1, 9), (1, 1, 1, 1), (MOST, MOST - 1, MOST - 2, MOST - 3), (0, MOST, 1, MOST),
)
DEEDS = ("split", "doubled", "over")
SMALLS = (
    "a", "b", ("a", "a"), ("a", "b"), ("b", "a"), (("a", "b"), "a"), ("b", ("b", "a")), (("a", "b"), ("b", "a")),
)


TIMED_GREATS = (
    (("a", "b"), ("c", "d")), ((("a", "b"), "c"), "d"), ("d", ("a", ("b", "c"))), ((("a", "b"), "c"), ("d", "e")),
    ((("a", "b"), ("c", "d")), ("e", "f")),
)
TIMED_SMALLS = (
    "a", ("a", "b"), ("a", "a"), ("a", ("c", "b")), (("a", "c"), ("c", "a")), ((("a", "c"), "b"), ("d", "c")),
    (("a", "d"), (("c", "b"), "a")), ((("a", "c"), ("b", "d")), (("c", "a"), "d")),
)
FREE = (0, 0, 0, 0)


def grounds():
    """Small grounds, without dates and dated ones, on which all ways can be listed."""
    return [
        ground(("a", "b")), ground((("a", "b"), "c")), ground(("c", ("b", "a"))), ground((("a", "c"), ("b", "d"))),
        dated(("a", "b"), (0, 0, 1)), dated((("a", "b"), "c"), (0, 0, 98, 0, 99)),
        dated((("a", "c"), ("b", "d")), (0, 0, 5, 0, 0, 2, 7)), dated((("a", "c"), ("b", "d")), (0, 0, 1, 0, 0, 2, 3)),
    ]


def first_dates(great):
    """Dates of a great tree, as its houses are numbered."""
    date = 0
    told = []
    for house in nodes(great):
        date += not isinstance(house, str)
        told.append(0 if isinstance(house, str) else date)
    return tuple(told)


def woven(words, many):
    """A small tree of so many leaves, of all these words in turn."""
    parts = [words[(5 * place + place // len(words)) % len(words)] for place in range(many)]
    while len(parts) > 1:
        parts = parts[2:] + [(parts[0], parts[1])]
    return parts[0]


def wide_cases():
    """(great, ground, small) for great trees of one to eight leaves, small ones of one to ten, without dates and dated."""
    told = []
    for turn, great in enumerate(GREATS):
        for many in (1 + turn % 10, 10 - turn % 3):
            small = woven(leaves(great), many)
            told += [(great, ground(great), small), (great, dated(great, first_dates(great)), small)]
    return told


# Two paths cost as much from the stay where the one of the last node comes in, and no deed is done there as cheaply.
FORKED = (
    dated(
        ((("a", "b"), ("c", "d")), (("e", "f"), ("g", "h"))), (0, 0, 4, 0, 0, 3, 6, 0, 0, 2, 0, 0, 1, 5, 7),
    ),
    ((("a", "c"), "e"), (("e", "f"), ("g", "h"))),
    (0, 99, 3, 2),
)


def kept_cases():
    """(ground, small, prices) on wide grounds with few least ways, which can be listed by kept_ways."""
    told = [FORKED]
    for great, stays, small in wide_cases():
        told += [(stays, small, (0, 2, 3, 1)), (stays, small, (3, 1, 9, 2)), (stays, small, (0, MOST, 1, MOST))]
    return told


def some_ways(great, small, many):
    """So many ways of a small tree, spread over all that there are: they all cost nothing."""
    stays = ground(great)
    total = how_many(stays, small, FREE)
    return [way_at(stays, small, FREE, k) for k in sorted({total * turn // many for turn in range(many)})]


def timed_ways():
    """(great, small, way) of ways of all kinds, on great trees of which all dates can be listed."""
    told = []
    for great in TIMED_GREATS:
        for small in TIMED_SMALLS:
            told += [(great, small, way) for way in some_ways(great, small, 25)]
    return told


def with_price(prices, deed, price):
    """The prices, the deed's being this one."""
    place = DEEDS.index(deed)
    return prices[:place] + (price,) + prices[place + 1:]


def prices_at(prices, deed, p, q):
    """The prices q times as great, the deed's being p."""
    return with_price(tuple(q * price for price in prices), deed, p)
