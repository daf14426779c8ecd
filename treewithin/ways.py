"""Ways of a small tree through a ground: what is one, and where each node does its deed."""

from treewithin.grounds import beside_at, is_home, under_at
from treewithin.kinds import is_row, is_whole
from treewithin.trees import halves, is_tree, nodes

FOUND = "found"
SPLIT = "split"
DOUBLED = "doubled"
OVER = "over"
# The deeds that have prices, in the order of these.
DEEDS = ("split", "doubled", "over")


def comes_in(way):
    """The stay at which a way comes in."""
    return way[0][0]


def done_at(way):
    """The stay at which a way's deed is done."""
    return way[0][-1]


def ins_of(way):
    """The stays at which the two of a way come in, none of a leaf's."""
    return tuple([comes_in(half) for half in way[2:]])


def gone_to(stay, ins):
    """Where that of two comes in that goes over from a stay."""
    return ins[1] if ins[0] == stay else ins[0]


def split_ins(ground, stay):
    """Where two come in that come of a split at a stay: pairs, one for either way about."""
    under = under_at(ground, stay)
    return [under, (under[1], under[0])] if len(under) == 2 else []


def over_ins(ground, stay):
    """Where two come in of which one stays at a stay and the other goes over from it: pairs."""
    beside = beside_at(ground, stay)
    return [(stay, far) for far in beside] + [(far, stay) for far in beside]


def deeds_at(ground, node, stay):
    """What a node may do at a stay, rising: (deed, ins), ins the stays at which its two come in, none of a leaf."""
    if isinstance(node, str):
        return [(FOUND, ())] if is_home(ground, stay, node) else []
    split = [(SPLIT, ins) for ins in split_ins(ground, stay)]
    over = [(OVER, ins) for ins in over_ins(ground, stay)]
    return sorted([(DOUBLED, (stay, stay))] + split + over)


def is_stay(ground, thing):
    """Whether it is the number of a stay; of anything."""
    return is_whole(thing) and 0 <= thing < len(ground)


def is_path(ground, thing):
    """Whether it is a tuple of stays, each next one under the one ahead; of anything."""
    if not isinstance(thing, tuple) or len(thing) == 0:
        return False
    if not all([is_stay(ground, stay) for stay in thing]):
        return False
    return all([below in under_at(ground, stay) for stay, below in zip(thing, thing[1:])])


def is_formed(ground, node, thing):
    """Whether it has the form of a way of the node, with a path, whatever its deed and its two; of anything."""
    many = 2 if isinstance(node, str) else 4
    return is_row(thing, many) and is_path(ground, thing[0]) and isinstance(thing[1], str)


def ways_of_nodes(ground, told, thing):
    """The way of each node, as numbered; None where one of them isn't so formed. Of anything."""
    ways = [None for node in told]
    ways[-1] = thing
    # A node ahead has the greater number, so what is handed to a node is there when its turn comes.
    for number in range(len(told) - 1, -1, -1):
        node = told[number]
        way = ways[number]
        if not is_formed(ground, node, way):
            return None
        for half, part in zip(halves(node), way[2:]):
            ways[half] = part
    return ways


def is_done(ground, node, way):
    """Whether a formed way of a node, whose two are formed too, does its deed as it should."""
    return (way[1], ins_of(way)) in deeds_at(ground, node, done_at(way))


def is_way(ground, small, thing):
    """Whether it is a way of the small tree; of anything."""
    if not is_tree(small):
        return False
    told = nodes(small)
    ways = ways_of_nodes(ground, told, thing)
    if ways is None or len(thing[0]) != 1:
        return False
    return all([is_done(ground, node, way) for node, way in zip(told, ways)])


def ways_within(way):
    """The ways of all nodes within a way, its own too, as the nodes are numbered."""
    backward = []
    waiting = [way]
    while waiting:
        part = waiting.pop()
        backward.append(part)
        waiting.extend(part[2:])
    return list(reversed(backward))


def places(way):
    """For each node, as numbered, the stay where it does its deed, and this deed."""
    return tuple([(done_at(part), part[1]) for part in ways_within(way)])
