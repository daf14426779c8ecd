"""What a way has of each deed, and what it costs.

Counts and prices are tuples of four: of split, doubled, over and lost.
"""

from treewithin.grounds import under_at
from treewithin.ways import DEEDS, ways_within


def lost_on(ground, path):
    """How often a path steps from a stay with two under it."""
    return len([stay for stay in path[:-1] if len(under_at(ground, stay)) == 2])


def counted(ground, way):
    """How often a way has each: split, doubled, over and lost."""
    parts = ways_within(way)
    done = [part[1] for part in parts]
    lost = sum([lost_on(ground, part[0]) for part in parts])
    return tuple([done.count(deed) for deed in DEEDS] + [lost])


def priced(prices, count):
    """What so many of each cost together."""
    return sum([price * many for price, many in zip(prices, count)])
