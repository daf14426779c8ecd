"""The least that ways cost, for each node and stay.

Prices are a tuple of four: of split, doubled, over and lost.
"""

from treewithin.grounds import beside_at, is_home, under_at
from treewithin.trees import nodes


def added(price, one, other):
    """What a deed costs with the two that come of it, None where there is none of either."""
    if one is None or other is None:
        return None
    return price + one + other


def cheapest(costs):
    """The least cost, None being none."""
    return min([cost for cost in costs if cost is not None], default=None)


def split_costs(ground, price, one, other, stay):
    """What it costs to split at a stay, either way about, of the rows of the two."""
    under = under_at(ground, stay)
    if len(under) != 2:
        return []
    return [added(price, one[under[0]], other[under[1]]), added(price, one[under[1]], other[under[0]])]


def over_costs(ground, price, one, other, stay):
    """What it costs that the other goes over from a stay, of the rows of the two."""
    return [added(price, one[stay], other[far]) for far in beside_at(ground, stay)]


def deed_costs(ground, prices, rows, node, stay):
    """What each deed of a node at a stay costs at the least, of the rows so far."""
    if isinstance(node, str):
        return [0] if is_home(ground, stay, node) else []
    one = rows[node[0]]
    other = rows[node[1]]
    return (
        split_costs(ground, prices[0], one, other, stay)
        + [added(prices[1], one[stay], other[stay])]
        + over_costs(ground, prices[2], one, other, stay)
        + over_costs(ground, prices[2], other, one, stay)
    )


def step_costs(ground, price, row, stay):
    """What it costs to step from a stay to one under it, of the row so far."""
    under = under_at(ground, stay)
    lost = price if len(under) == 2 else 0
    return [added(lost, row[below], 0) for below in under]


def row_of(ground, prices, rows, node):
    """The row of a node, of the rows so far."""
    row = []
    # What lies under a stay has the lesser number, so its entry is there already.
    for stay in range(len(ground)):
        costs = deed_costs(ground, prices, rows, node, stay) + step_costs(ground, prices[3], row, stay)
        row.append(cheapest(costs))
    return tuple(row)


def table(ground, small, prices):
    """For each node a row with, for each stay, the least that a way costs that comes in there, None for none."""
    rows = []
    for node in nodes(small):
        rows.append(row_of(ground, prices, rows, node))
    return tuple(rows)


def least(ground, small, prices):
    """The least that a way of the small tree costs."""
    # A longer path costs no less than to come in where it ends, so it changes nothing that the row counts them.
    return cheapest(table(ground, small, prices)[-1])
