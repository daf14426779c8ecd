"""All ways listed one by one, straight by the words of the document, to hold the program against."""

import itertools


def parts(tree):
    """The trees within a tree, itself too, as its nodes are numbered."""
    if isinstance(tree, str):
        return [tree]
    return parts(tree[0]) + parts(tree[1]) + [tree]


def paths_from(ground, stay):
    """All paths that come in at a stay."""
    told = [(stay,)]
    for below in ground[stay][2]:
        told += [(stay,) + path for path in paths_from(ground, below)]
    return told


def entries_of(ground, stay):
    """For each deed at a stay the pairs of stays at which its two may come in."""
    under, beside = ground[stay][2:]
    told = {("doubled", (stay, stay))}
    if len(under) == 2:
        told |= {("split", under), ("split", under[::-1])}
    for far in beside:
        told |= {("over", (stay, far)), ("over", (far, stay))}
    return sorted(told)


def deeds_at(ground, tree, stay, known):
    """What may stand behind the path in a way of a tree that does its deed at a stay."""
    if isinstance(tree, str):
        return [("found",)] if ground[stay][0] == tree and not ground[stay][2] else []
    told = []
    for deed, (one, other) in entries_of(ground, stay):
        pairs = itertools.product(ways_from(ground, tree[0], one, known), ways_from(ground, tree[1], other, known))
        told += [(deed,) + pair for pair in pairs]
    return told


def ways_from(ground, tree, stay, known):
    """All ways of a tree that come in at a stay, by paths of any length."""
    if (tree, stay) not in known:
        known[tree, stay] = [
            (path,) + rest for path in paths_from(ground, stay) for rest in deeds_at(ground, tree, path[-1], known)
        ]
    return known[tree, stay]


def all_ways(ground, small):
    """All ways of a small tree."""
    known = {}
    return [
        ((stay,),) + rest for stay in range(len(ground)) for rest in deeds_at(ground, small, stay, known)
    ]


def count_of(ground, way):
    """(split, doubled, over, lost) of a way."""
    path, deed = way[:2]
    own = (
        int(deed == "split"), int(deed == "doubled"), int(deed == "over"),
        sum(len(ground[stay][2]) == 2 for stay, below in zip(path, path[1:])),
    )
    return tuple(sum(four) for four in zip(own, *[count_of(ground, half) for half in way[2:]]))


def cost_of(ground, way, prices):
    """What a way costs."""
    split, doubled, over, lost = count_of(ground, way)
    return split * prices[0] + doubled * prices[1] + over * prices[2] + lost * prices[3]


def least_of(ground, ways, prices):
    """The least that one of the ways costs, None where there is none."""
    return min([cost_of(ground, way, prices) for way in ways], default=None)
