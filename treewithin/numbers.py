"""Least ways by number: how many there are, the one at a place, the place of one."""

from treewithin.counting import counted, priced
from treewithin.errors import NoWay
from treewithin.leastways import LeastWays, led
from treewithin.tables import least
from treewithin.trees import halves
from treewithin.ways import comes_in, done_at, ways_within


def product(factors):
    """All factors together, 1 of none."""
    told = 1
    for factor in factors:
        told = told * factor
    return told


def many_by(many, node, deed):
    """How many least ways of a node there are by a deed, of the rows of its two."""
    return product([many[half][stay] for half, stay in zip(halves(node), deed[1])])


class Counts:
    """How many least ways there are of each node at each stay.

    done[node][stay] are those that do their deed where they come in,
    many[node][stay] all that come in there.
    """

    def __init__(self, ways):
        self.done = []
        self.many = []
        for number, node in enumerate(ways.told):
            done = [sum([many_by(self.many, node, deed) for deed in deeds]) for deeds in ways.deeds[number]]
            many = []
            # What lies under a stay has the lesser number, so its number is there already.
            for stay, below in enumerate(ways.steps[number]):
                many.append(done[stay] + sum([many[each] for each in below]))
            self.done.append(done)
            self.many.append(many)


def total(ways, counts):
    """How many least ways of the small tree there are."""
    return sum([counts.done[-1][stay] for stay in ways.begins])


def how_many(ground, small, prices):
    """How many least ways of the small tree there are."""
    ways = LeastWays(ground, small, prices)
    return total(ways, Counts(ways))


def parted(sizes, place):
    """Of parts of these sizes, one behind the other: in which of them a place lies, and its place there."""
    part = 0
    while place >= sizes[part]:
        place = place - sizes[part]
        part = part + 1
    return (part, place)


def path_at(ways, counts, number, handed):
    """The path of a node's way at a place of all that come in at a stay, and its place among those of this path."""
    path = [handed[0]]
    place = handed[1]
    while place >= counts.done[number][path[-1]]:
        steps = ways.steps[number][path[-1]]
        found = parted([counts.many[number][below] for below in steps], place - counts.done[number][path[-1]])
        path.append(steps[found[0]])
        place = found[1]
    return (tuple(path), place)


def heads(deeds):
    """The deeds without where the other comes in, rising."""
    return sorted(set([(deed[0], deed[1][:1]) for deed in deeds]))


def tails(deeds, head):
    """Where the other comes in, rising, by the deeds with a head."""
    return [deed[1][1] for deed in deeds if (deed[0], deed[1][:1]) == head]


def pair_at(counts, node, deeds, place):
    """The deed at a place of those of a node that is no leaf, and what is handed to its two: (stay, place)."""
    ones = counts.many[node[0]]
    others = counts.many[node[1]]
    # Ways rise by the one's whole way before it matters where the other comes in.
    choices = heads(deeds)
    widths = [sum([others[stay] for stay in tails(deeds, head)]) for head in choices]
    found = parted([ones[head[1][0]] * width for head, width in zip(choices, widths)], place)
    head = choices[found[0]]
    turn = divmod(found[1], widths[found[0]])
    ends = tails(deeds, head)
    end = parted([others[stay] for stay in ends], turn[1])
    return (head[0], ((head[1][0], turn[0]), (ends[end[0]], end[1])))


def pick_at(ways, counts, number, handed):
    """The path, the deed and what is handed on to its two of a node's way, of the stay and the place handed to it."""
    path = path_at(ways, counts, number, handed)
    node = ways.told[number]
    deeds = ways.deeds[number][path[0][-1]]
    if isinstance(node, str):
        return (path[0], deeds[0][0], ())
    return (path[0],) + pair_at(counts, node, deeds, path[1])


def way_at(ground, small, prices, k):
    """The least way at place k, as tuples rise; refused with NoWay where there are not so many."""
    ways = LeastWays(ground, small, prices)
    counts = Counts(ways)
    if not 0 <= k < total(ways, counts):
        raise NoWay("there are not so many least ways")
    found = parted([counts.done[-1][stay] for stay in ways.begins], k)
    begin = (ways.begins[found[0]], found[1])
    return led(ways.told, begin, lambda number, handed: pick_at(ways, counts, number, handed))


def ahead_on_path(ways, counts, number, path):
    """How many ways of a node come ahead of all with a path, of those that come in where it does."""
    ahead = 0
    for stay, below in zip(path, path[1:]):
        lesser = [counts.many[number][step] for step in ways.steps[number][stay] if step < below]
        ahead = ahead + counts.done[number][stay] + sum(lesser)
    return ahead


def place_of_pair(counts, node, deeds, way, places):
    """The place of a way among those with its path, of a node that is no leaf, and the places of its two."""
    own = (way[1], (comes_in(way[2]),))
    end = comes_in(way[3])
    place = places[1]
    for deed in deeds:
        head = (deed[0], deed[1][:1])
        many = counts.many[node[1]][deed[1][1]]
        if head < own:
            place = place + counts.many[node[0]][deed[1][0]] * many
        elif head == own:
            place = place + (places[0] + 1 if deed[1][1] < end else places[0]) * many
    return place


def place_of(ground, small, prices, way):
    """The place of a way among the least ones, as tuples rise; None of one that isn't a least one."""
    if priced(prices, counted(ground, way)) != least(ground, small, prices):
        return None
    ways = LeastWays(ground, small, prices)
    counts = Counts(ways)
    told = []
    for number, part in enumerate(ways_within(way)):
        node = ways.told[number]
        place = ahead_on_path(ways, counts, number, part[0])
        if not isinstance(node, str):
            deeds = ways.deeds[number][done_at(part)]
            place = place + place_of_pair(counts, node, deeds, part, [told[half] for half in node])
        told.append(place)
    lesser = [counts.done[-1][stay] for stay in ways.begins if stay < comes_in(way)]
    return sum(lesser) + told[-1]
