"""Lookers of the least cost: whether a thing is the table, and whether it shows that a way is a least one."""

from treewithin.counting import counted, priced
from treewithin.kinds import is_row, is_whole
from treewithin.tables import cheapest, deed_costs, step_costs, table
from treewithin.trees import nodes
from treewithin.ways import is_way


def is_entries(ground, thing):
    """Whether it is a row of whole numbers or None, one for each stay; of anything."""
    return is_row(thing, len(ground)) and all([entry is None or is_whole(entry) for entry in thing])


def is_rows(ground, small, thing):
    """Whether it is a tuple of such rows, one for each node; of anything."""
    return is_row(thing, len(nodes(small))) and all([is_entries(ground, row) for row in thing])


def shows_table(ground, small, prices, thing):
    """Whether it is the table; of anything."""
    return is_rows(ground, small, thing) and thing == table(ground, small, prices)


def is_within(entry, bound):
    """Whether an entry is no more than a bound, None being more than all numbers."""
    if bound is None:
        return True
    return entry is not None and entry <= bound


def is_bounded(ground, prices, rows, number, node, stay):
    """Whether an entry is no more than any that is put together by one deed or one step."""
    costs = deed_costs(ground, prices, rows, node, stay) + step_costs(ground, prices, rows[number], stay)
    return is_within(rows[number][stay], cheapest(costs))


def is_row_bounded(ground, prices, rows, number, node):
    """Whether each entry of a node's row is so."""
    return all([is_bounded(ground, prices, rows, number, node, stay) for stay in range(len(ground))])


def shows_least(ground, small, prices, way, thing):
    """Whether way is a way, and thing rows by which it is a least one; of anything these two."""
    if not is_way(ground, small, way) or not is_rows(ground, small, thing):
        return False
    told = nodes(small)
    if not all([is_row_bounded(ground, prices, thing, number, node) for number, node in enumerate(told)]):
        return False
    cost = priced(prices, counted(ground, way))
    return all([is_within(cost, entry) for entry in thing[-1]])
