"""A looker of rings: whether a thing shows that a way without dates doesn't fit into time."""

from treewithin.kinds import is_row, is_whole
from treewithin.times import links


def is_moment(thing):
    """Whether it has the form of a moment, of whatever way; of anything."""
    return is_row(thing, 2) and isinstance(thing[0], str) and is_whole(thing[1])


def shows_ring(great, small, way, thing):
    """Whether it is a ring of the way; of anything."""
    if not isinstance(thing, tuple) or len(thing) < 2:
        return False
    if not all([is_moment(moment) for moment in thing]) or len(set(thing)) != len(thing):
        return False
    pairs = links(great, small, way)
    return all([pair in pairs for pair in zip(thing, thing[1:] + thing[:1])])
