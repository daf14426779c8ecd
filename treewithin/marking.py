"""What least ways have, and how many of them have it: marks, goings and entries.

All of it comes of uses: (node, stay, deed, many), that so many least ways
have the node do this deed at this stay, deed being (deed, ins) as deeds_at
tells it.
"""

from treewithin.leastways import LeastWays
from treewithin.numbers import Counts, how_many, many_by
from treewithin.trees import halves, nodes
from treewithin.ways import OVER, gone_to


def spread(steps, around):
    """How often a node comes to each stay, of how often it comes in there."""
    told = list(around)
    # What lies under a stay has the lesser number, so all that comes to a stay is there when its turn comes.
    for stay in range(len(told) - 1, -1, -1):
        for below in steps[stay]:
            told[below] = told[below] + told[stay]
    return told


def hand_on(many, node, deed, around, often):
    """Adds to around what lies around the two of a node that comes so often to do a deed."""
    if isinstance(node, str):
        return
    one = deed[1][0]
    other = deed[1][1]
    around[node[0]][one] = around[node[0]][one] + often * many[node[1]][other]
    around[node[1]][other] = around[node[1]][other] + often * many[node[0]][one]


def uses(ground, small, prices):
    """All uses that some least way has."""
    ways = LeastWays(ground, small, prices)
    many = Counts(ways).many
    last = len(ways.told) - 1
    # For each node and stay how often there is a least way, its part that begins with this node there left out.
    around = [[0 for stay in ground] for node in ways.told]
    for stay in ways.begins:
        around[last][stay] = 1
    told = []
    for number in range(last, -1, -1):
        node = ways.told[number]
        # The last node's path is one stay alone.
        reached = list(around[last]) if number == last else spread(ways.steps[number], around[number])
        for stay, often in enumerate(reached):
            for deed in ways.deeds[number][stay]:
                if often > 0:
                    told.append((number, stay, deed, often * many_by(many, node, deed)))
                    hand_on(many, node, deed, around, often)
    return told


def tallied(pairs):
    """The rising tuple of (key, many), each key once, of pairs of a key and so many more."""
    told = {}
    for key, many in pairs:
        told[key] = told.get(key, 0) + many
    return tuple(sorted(told.items()))


def marks(ground, small, prices):
    """The marks (node, stay, deed) that some least way has, each with how many have it, rising."""
    return tallied([((node, stay, deed[0]), many) for node, stay, deed, many in uses(ground, small, prices)])


def shared(ground, small, prices):
    """The marks that all least ways have, rising."""
    total = how_many(ground, small, prices)
    return tuple([mark for mark, many in marks(ground, small, prices) if many == total])


def goings(ground, small, prices):
    """(node, from, to) of each node that goes over in some least way, with how many have it, rising."""
    told = [use for use in uses(ground, small, prices) if use[2][0] == OVER]
    return tallied([((node, stay, gone_to(stay, deed[1])), many) for node, stay, deed, many in told])


def entries(ground, small, prices):
    """(node, stay) of each stay at which a node comes in in some least way, with how many have it, rising."""
    told = nodes(small)
    pairs = []
    for node, stay, deed, many in uses(ground, small, prices):
        if node + 1 == len(told):
            pairs.append(((node, stay), many))
        for half, place in zip(halves(told[node]), deed[1]):
            pairs.append(((half, place), many))
    return tallied(pairs)
