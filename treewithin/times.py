"""Ways in time: what of a way without dates comes ahead of what, and dates by which it may be led.

A moment is ("house", h) or ("thing", u); None stands where there is none.
"""

from treewithin.trees import ahead_of, halves, nodes
from treewithin.ways import FOUND, OVER, SPLIT, done_at, gone_to, ins_of, ways_within

HOUSE = "house"
THING = "thing"


def house_moment(houses, house):
    """The moment at which a house splits, None of a leaf and where there is no house."""
    if house is None or isinstance(houses[house], str):
        return None
    return (HOUSE, house)


def node_moment(number, part):
    """The moment at which a node, led by its part of the way, does its deed, None of a leaf."""
    if part[1] == FOUND:
        return None
    return (HOUSE, done_at(part)) if part[1] == SPLIT else (THING, number)


def house_pairs(houses, ahead):
    """The moments of the house ahead of each house and of this house."""
    return [(house_moment(houses, ahead[house]), house_moment(houses, house)) for house in range(len(houses))]


def thing_pairs(small, parts):
    """The moments of each node and of its one and other."""
    pairs = []
    for number, node in enumerate(nodes(small)):
        for half in halves(node):
            pairs.append((node_moment(number, parts[number]), node_moment(half, parts[half])))
    return pairs


def houses_held(part):
    """The houses that have to stand when a node is doubled or goes over."""
    stay = done_at(part)
    return [stay, gone_to(stay, ins_of(part))] if part[1] == OVER else [stay]


def stay_pairs(houses, ahead, number, part):
    """The moments of a node that is doubled or goes over, between those of each house that stands then."""
    own = node_moment(number, part)
    pairs = []
    if own == (THING, number):
        for house in houses_held(part):
            pairs.append((house_moment(houses, ahead[house]), own))
            pairs.append((own, house_moment(houses, house)))
    return pairs


def links(great, small, way):
    """The pairs of moments, rising, the former straight ahead of the latter."""
    houses = nodes(great)
    ahead = ahead_of(great)
    parts = ways_within(way)
    pairs = house_pairs(houses, ahead) + thing_pairs(small, parts)
    for number, part in enumerate(parts):
        pairs.extend(stay_pairs(houses, ahead, number, part))
    return tuple(sorted(set([pair for pair in pairs if None not in pair])))


def moments_of(great, way):
    """All moments of a great tree and of a way."""
    houses = nodes(great)
    told = [house_moment(houses, house) for house in range(len(houses))]
    told.extend([node_moment(number, part) for number, part in enumerate(ways_within(way))])
    return sorted(set([moment for moment in told if moment is not None]))


def behind(pairs, moment, left):
    """Those that are left of the moments that a moment is straight ahead of."""
    return [later for former, later in pairs if former == moment and later in left]


def peeled(pairs, moments):
    """(order, left): the moments backward in time, as far as each has all behind it there already, and the others."""
    order = []
    left = list(moments)
    free = left
    while free:
        free = [moment for moment in left if not behind(pairs, moment, left)]
        order.extend(free)
        left = [moment for moment in left if moment not in free]
    return (order, left)


def dates_by(great, order):
    """Dates of the great tree by which its houses split in this order, backward in time."""
    splits = [moment for moment in order if moment[0] == HOUSE]
    moments = [house_moment(nodes(great), house) for house in range(len(nodes(great)))]
    return tuple([0 if moment is None else splits.index(moment) + 1 for moment in moments])


def ring_in(pairs, left):
    """A ring of moments, of those left of which each is straight ahead of another one."""
    trail = [left[0]]
    onward = behind(pairs, left[0], left)[0]
    while onward not in trail:
        trail.append(onward)
        onward = behind(pairs, onward, left)[0]
    return tuple(trail[trail.index(onward):])


def in_time(great, small, way):
    """("dates", dates), by which a way without dates may be led, or ("ring", ring) of moments that bars it."""
    pairs = links(great, small, way)
    found = peeled(pairs, moments_of(great, way))
    if found[1]:
        return ("ring", ring_in(pairs, found[1]))
    return ("dates", dates_by(great, found[0]))
