"""All great trees of few leaves, and which of them cost least for some small ones."""

from treewithin.grounds import ground
from treewithin.leastways import least_way
from treewithin.several import cost_together
from treewithin.tables import table
from treewithin.trees import leaves, plain, text_of


def with_leaf(tree, word):
    """All trees that come of putting one leaf more beside one of the trees within a tree."""
    told = [(tree, word)]
    if not isinstance(tree, str):
        told.extend([(one, tree[1]) for one in with_leaf(tree[0], word)])
        told.extend([(tree[0], other) for other in with_leaf(tree[1], word)])
    return told


def great_trees(words):
    """All plain great trees with just these leaves, by rising texts."""
    trees = [words[0]]
    for word in words[1:]:
        grown = []
        for tree in trees:
            grown.extend(with_leaf(tree, word))
        trees = grown
    return tuple(sorted([plain(tree) for tree in trees], key=text_of))


def words_of(smalls):
    """The words of the leaves that some of the small trees have, rising."""
    words = []
    for small in smalls:
        words.extend(leaves(small))
    return tuple(sorted(set(words)))


def best_of(trees, costs):
    """(cost, trees): the least of the trees' costs, and those that cost so much."""
    cost = min(costs)
    return (cost, tuple([tree for tree, own in zip(trees, costs) if own == cost]))


def best_great(smalls, prices):
    """(cost, trees): the least cost together on a great tree's ground, and the plain trees that cost so much."""
    trees = great_trees(words_of(smalls))
    return best_of(trees, [cost_together(ground(great), smalls, prices) for great in trees])


def pair_of(stays, smalls, prices):
    """(ways, tables): for each small tree a least way, and a table by which it is shown."""
    ways = tuple([least_way(stays, small, prices) for small in smalls])
    return (ways, tuple([table(stays, small, prices) for small in smalls]))


def best_paper(smalls, prices):
    """For each of the great trees, in order, the ways and tables by which its cost is shown."""
    return tuple([pair_of(ground(great), smalls, prices) for great in great_trees(words_of(smalls))])
