"""All least ways of a small tree at once, and the first of them."""

from treewithin.grounds import under_at
from treewithin.tables import cheapest, deed_cost, step_cost, summed, table
from treewithin.trees import halves, nodes
from treewithin.ways import deeds_at


def least_deeds(ground, prices, rows, number, node, stay):
    """The deeds of a node at a stay, rising, by which it costs no more than to come in there."""
    entry = rows[number][stay]
    if entry is None:
        return []
    return [deed for deed in deeds_at(ground, node, stay) if deed_cost(prices, rows, node, deed) == entry]


def least_steps(ground, prices, row, stay):
    """The stays under a stay, rising, by which it costs no more than to come in there."""
    if row[stay] is None:
        return []
    own = step_cost(ground, prices, stay)
    return [below for below in sorted(under_at(ground, stay)) if summed([own, row[below]]) == row[stay]]


class LeastWays:
    """All least ways at once: by which deeds and which steps they go, for each node and each stay.

    told are the nodes; deeds and steps are read as deeds[node][stay], each
    rising; begins are the stays at which the last node does its deed.
    """

    def __init__(self, ground, small, prices):
        rows = table(ground, small, prices)
        stays = list(range(len(ground)))
        self.told = nodes(small)
        self.deeds = []
        self.steps = []
        for number, node in enumerate(self.told):
            self.deeds.append([least_deeds(ground, prices, rows, number, node, stay) for stay in stays])
            self.steps.append([least_steps(ground, prices, rows[number], stay) for stay in stays])
        cost = cheapest(rows[-1])
        # The last node's path is one stay alone, so it is no beginning where it could only step on.
        self.begins = [stay for stay in stays if rows[-1][stay] == cost and self.deeds[-1][stay]]


def led(told, begin, pick):
    """The way that is put together from the last node on.

    pick(number, handed) tells a node's path, its deed, and what is handed on
    to each of its two; the last node is handed what it begins with.
    """
    handed = [None for node in told]
    handed[-1] = begin
    parts = [None for node in told]
    # A node ahead has the greater number, so what is handed to a node is there when its turn comes.
    for number in range(len(told) - 1, -1, -1):
        picked = pick(number, handed[number])
        parts[number] = (picked[0], picked[1])
        for half, onward in zip(halves(told[number]), picked[2]):
            handed[half] = onward
    ways = []
    for node, part in zip(told, parts):
        ways.append(part + tuple([ways[half] for half in halves(node)]))
    return ways[-1]


def first_pick(ways, number, stay):
    """The path, the deed and where its two come in of the first least way of a node that comes in at a stay."""
    path = [stay]
    # A path comes ahead of all that go on from it.
    while not ways.deeds[number][path[-1]]:
        path.append(ways.steps[number][path[-1]][0])
    deed = ways.deeds[number][path[-1]][0]
    return (tuple(path), deed[0], deed[1])


def least_way(ground, small, prices):
    """The first, as tuples rise, of the ways of the small tree that cost the least."""
    ways = LeastWays(ground, small, prices)
    return led(ways.told, ways.begins[0], lambda number, stay: first_pick(ways, number, stay))
