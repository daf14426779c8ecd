"""Several small trees together."""

from treewithin.numbers import how_many, product
from treewithin.tables import least


def cost_together(ground, smalls, prices):
    """The least costs of all small trees together."""
    return sum([least(ground, small, prices) for small in smalls])


def together(ground, smalls, prices):
    """(cost, many): the least costs together, and how many choices of a least way for each there are."""
    many = product([how_many(ground, small, prices) for small in smalls])
    return (cost_together(ground, smalls, prices), many)
