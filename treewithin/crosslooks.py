"""A looker of crossings: whether rows and papers show them."""

from treewithin.counting import counted
from treewithin.crossings import common_divisor, prices_at, turns_of
from treewithin.kinds import is_row, is_whole
from treewithin.tablelooks import shows_least
from treewithin.ways import DEEDS


def is_crossing(thing):
    """Whether it has the form of a row (n, p, q), p / q in least terms; of anything."""
    if not is_row(thing, 3) or not all([is_whole(part) for part in thing]):
        return False
    return thing[1] >= 0 and thing[2] >= 1 and common_divisor(thing[1], thing[2]) == 1


def is_ahead(row, other):
    """Whether a row may stand straight ahead of another one: n falling, p / q rising."""
    return row[0] > other[0] and row[1] * other[2] < other[1] * row[2]


def is_crossings(thing):
    """Whether it is a tuple of one row or more in their order, the first from nought on; of anything."""
    if not isinstance(thing, tuple) or not all([is_crossing(row) for row in thing]):
        return False
    if len(thing) == 0 or thing[0][1] != 0:
        return False
    return all([is_ahead(row, other) for row, other in zip(thing, thing[1:])])


def shows_row(ground, small, prices, deed, n, begin, end, thing):
    """Whether it is the paper of a row of this n that goes from a turn to another one; of anything."""
    if not is_row(thing, 3):
        return False
    way = thing[0]
    if not shows_least(ground, small, prices_at(prices, deed, begin), way, thing[1]):
        return False
    if not shows_least(ground, small, prices_at(prices, deed, end), way, thing[2]):
        return False
    return counted(ground, way)[DEEDS.index(deed)] == n


def shows_crossings(ground, small, prices, deed, rows, papers):
    """Whether rows are the crossings, and papers show them; of anything these two."""
    if not is_crossings(rows) or not is_row(papers, len(rows)):
        return False
    turns = turns_of(rows)
    return all([
        shows_row(ground, small, prices, deed, row[0], begin, end, paper)
        for row, begin, end, paper in zip(rows, turns, turns[1:], papers)
    ])
