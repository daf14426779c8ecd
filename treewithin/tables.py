"""The least that ways cost, for each node and stay.

Prices are a tuple of four: of split, doubled, over and lost.
"""

from treewithin.grounds import under_at
from treewithin.trees import halves, nodes
from treewithin.ways import DEEDS, deeds_at

LOST = 3


def summed(costs):
    """What all cost together, None where there is none of one of them."""
    return None if None in costs else sum(costs)


def cheapest(costs):
    """The least cost, None being none."""
    return min([cost for cost in costs if cost is not None], default=None)


def price_of(prices, deed):
    """What a deed itself costs."""
    return prices[DEEDS.index(deed)] if deed in DEEDS else 0


def deed_cost(prices, rows, node, deed):
    """What one of deeds_at costs with all that comes of it, of the rows so far."""
    onward = [rows[half][stay] for half, stay in zip(halves(node), deed[1])]
    return summed([price_of(prices, deed[0])] + onward)


def deed_costs(ground, prices, rows, node, stay):
    """What each deed of a node at a stay costs at the least, of the rows so far."""
    return [deed_cost(prices, rows, node, deed) for deed in deeds_at(ground, node, stay)]


def step_cost(ground, prices, stay):
    """What a step from a stay to one under it costs itself."""
    return prices[LOST] if len(under_at(ground, stay)) == 2 else 0


def step_costs(ground, prices, row, stay):
    """What it costs to step from a stay to one under it, of the row so far."""
    own = step_cost(ground, prices, stay)
    return [summed([own, row[below]]) for below in under_at(ground, stay)]


def row_of(ground, prices, rows, node):
    """The row of a node, of the rows so far."""
    row = []
    # What lies under a stay has the lesser number, so its entry is there already.
    for stay in range(len(ground)):
        costs = deed_costs(ground, prices, rows, node, stay) + step_costs(ground, prices, row, stay)
        row.append(cheapest(costs))
    return tuple(row)


def table(ground, small, prices):
    """For each node a row with, for each stay, the least that a way costs that comes in there, None for none."""
    rows = []
    for node in nodes(small):
        rows.append(row_of(ground, prices, rows, node))
    return tuple(rows)


def least(ground, small, prices):
    """The least that a way of the small tree costs."""
    # A longer path costs no less than to come in where it ends, so it changes nothing that the row counts them.
    return cheapest(table(ground, small, prices)[-1])
