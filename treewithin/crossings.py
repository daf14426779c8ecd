"""Crossings: how the least ways' number of a deed falls as its price grows.

Costs by number are a list with, for each number of the deed from 0 on, the
least that there is with just so many of it, these not counted; None for none.
A turn is (p, q), the price p / q; (1, 0) is the one beyond all prices.
"""

from treewithin.grounds import under_at
from treewithin.leastways import least_way
from treewithin.tables import cheapest, price_of, step_cost, summed, table
from treewithin.trees import halves, nodes
from treewithin.ways import DEEDS, deeds_at

BEYOND = (1, 0)


def raised(costs, more):
    """Costs by number, each so much more."""
    return [summed([cost, more]) for cost in costs]


def folded(one, other):
    """The costs by number of two together."""
    told = [None for place in range(len(one) + len(other) - 1)]
    for number, cost in enumerate(one):
        for place, more in enumerate(other, start=number):
            told[place] = cheapest([told[place], summed([cost, more])])
    return told


def lowest(lists, many):
    """Of lists of costs by number, each of so many, the least for each number."""
    return [cheapest([costs[number] for costs in lists]) for number in range(many)]


def done_costs(prices, asked, rows, node, deed):
    """The costs by number of a node that does one of deeds_at, of the rows so far."""
    told = [0]
    for half, stay in zip(halves(node), deed[1]):
        told = folded(told, rows[half][stay])
    if isinstance(node, str):
        return told
    if deed[0] == asked:
        return [None] + told
    return raised(told, price_of(prices, deed[0])) + [None]


def costs_of_node(ground, prices, asked, rows, node):
    """For each stay the costs by number of a node that comes in there, of the rows so far."""
    # A leaf has none of the deed; of another node its two and itself may have it.
    many = 1 if isinstance(node, str) else sum([len(rows[half][0]) for half in node])
    told = []
    # What lies under a stay has the lesser number, so its costs are there already.
    for stay in range(len(ground)):
        own = step_cost(ground, prices, stay)
        done = [done_costs(prices, asked, rows, node, deed) for deed in deeds_at(ground, node, stay)]
        stepped = [raised(told[below], own) for below in under_at(ground, stay)]
        told.append(lowest(done + stepped, many))
    return told


def rests(ground, small, prices, deed):
    """For each number of the deed the least that a way with just so many of it costs, these not counted."""
    rows = []
    for node in nodes(small):
        rows.append(costs_of_node(ground, prices, deed, rows, node))
    # A longer path costs no less than to come in where it ends, so it changes nothing that the rows count them.
    return tuple(lowest(rows[-1], len(rows[-1][0])))


def common_divisor(one, other):
    """The greatest number that divides both, of two from 0 of which one is more."""
    while other > 0:
        rest = one % other
        one = other
        other = rest
    return one


def following_row(costs, n):
    """The row behind that of n, None where n is the least number that there is."""
    told = None
    for less in range(n):
        if costs[less] is not None:
            p = costs[less] - costs[n]
            q = n - less
            # Of several that cross at one price only the least number goes on beyond it.
            if told is None or p * told[2] < told[1] * q:
                told = (less, p, q)
    if told is None:
        return None
    divisor = common_divisor(told[1], told[2])
    return (told[0], told[1] // divisor, told[2] // divisor)


def crossings(ground, small, prices, deed):
    """The rows (n, p, q), n falling: from the price p / q on the least ways have n of the deed."""
    costs = rests(ground, small, prices, deed)
    rows = []
    row = (costs.index(cheapest(costs)), 0, 1)
    while row is not None:
        rows.append(row)
        row = following_row(costs, row[0])
    return tuple(rows)


def turns_of(rows):
    """The turns at which the rows begin, and behind them the one at which the last row ends."""
    return [(row[1], row[2]) for row in rows] + [BEYOND]


def prices_at(prices, deed, turn):
    """The prices q times as great, the deed's being p."""
    own = DEEDS.index(deed)
    return tuple([turn[0] if place == own else turn[1] * price for place, price in enumerate(prices)])


def row_paper(ground, small, prices, deed, begin, end):
    """The paper of a row that goes from a turn to another one."""
    # Between the two all least ways have the row's number, and each of them is a least one at both.
    between = prices_at(prices, deed, (begin[0] + end[0], begin[1] + end[1]))
    first = table(ground, small, prices_at(prices, deed, begin))
    last = table(ground, small, prices_at(prices, deed, end))
    return (least_way(ground, small, between), first, last)


def crossing_paper(ground, small, prices, deed):
    """(rows, papers): the crossings, and for each row (way, first, last) by which they are shown."""
    rows = crossings(ground, small, prices, deed)
    turns = turns_of(rows)
    papers = [row_paper(ground, small, prices, deed, begin, end) for begin, end in zip(turns, turns[1:])]
    return (rows, tuple(papers))
