"""A looker of best great trees: whether a cost, trees and a paper show which ones cost least."""

from treewithin.counting import counted, priced
from treewithin.greats import best_of, great_trees, words_of
from treewithin.grounds import ground
from treewithin.kinds import is_row, is_whole
from treewithin.tablelooks import shows_least
from treewithin.trees import is_great


def shows_pair(stays, smalls, prices, thing):
    """Whether it is (ways, tables), a least way and a table that shows it for each small tree; of anything."""
    if not is_row(thing, 2) or not all([is_row(part, len(smalls)) for part in thing]):
        return False
    return all([
        shows_least(stays, small, prices, way, rows)
        for small, way, rows in zip(smalls, thing[0], thing[1])
    ])


def ways_cost(stays, prices, ways):
    """What ways cost together."""
    return sum([priced(prices, counted(stays, way)) for way in ways])


def is_those(thing, trees):
    """Whether it is the tuple of these great trees; of anything."""
    return is_row(thing, len(trees)) and all([is_great(tree) for tree in thing]) and thing == trees


def shows_best(smalls, prices, cost, trees, paper):
    """Whether paper shows that cost is the least one, and trees those that cost so much; of anything these three."""
    all_greats = great_trees(words_of(smalls))
    if not is_whole(cost) or not is_row(paper, len(all_greats)):
        return False
    papers = list(zip([ground(great) for great in all_greats], paper))
    if not all([shows_pair(stays, smalls, prices, pair) for stays, pair in papers]):
        return False
    best = best_of(all_greats, [ways_cost(stays, prices, pair[0]) for stays, pair in papers])
    return cost == best[0] and is_those(trees, best[1])
