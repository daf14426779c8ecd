"""Grounds: stays (name, slice, under, beside), and the ground without dates."""

from treewithin.trees import ahead_of, halves, nodes

NAME = 0
UNDER = 2
BESIDE = 3


def under_at(stays, stay):
    """The stays straight under a stay."""
    return stays[stay][UNDER]


def beside_at(stays, stay):
    """The stays to which one goes over from a stay."""
    return stays[stay][BESIDE]


def is_home(stays, stay, word):
    """Whether a leaf of this word is found at the stay."""
    return under_at(stays, stay) == () and stays[stay][NAME] == word


def name_of(houses, house):
    """The word of a leaf, the number of another house."""
    return houses[house] if isinstance(houses[house], str) else house


def lines_up(great):
    """For each house the tuple of itself and all houses above it."""
    ahead = ahead_of(great)
    lines = [() for house in ahead]
    # A house ahead has the greater number, so its own line is there already.
    for house in range(len(ahead) - 1, -1, -1):
        above = () if ahead[house] is None else lines[ahead[house]]
        lines[house] = (house,) + above
    return lines


def apart_from(lines, house):
    """The houses that aren't above a house, under it or itself."""
    return tuple([far for far in range(len(lines)) if far not in lines[house] and house not in lines[far]])


def ground(great):
    """The ground of a great tree without dates: a stay for each house."""
    houses = nodes(great)
    lines = lines_up(great)
    return tuple([
        (name_of(houses, house), 0, halves(houses[house]), apart_from(lines, house))
        for house in range(len(houses))
    ])
