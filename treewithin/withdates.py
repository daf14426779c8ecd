"""Ways with dates: a way without dates led through a dated ground, the same but for slices."""

from treewithin.dating import dated
from treewithin.grounds import NAME, under_at
from treewithin.leastways import first_pick, led
from treewithin.trees import halves, nodes
from treewithin.ways import deeds_at, done_at, ins_of, ways_within


def houses_of(great, stays):
    """For each stay of a dated ground the number of its house."""
    houses = nodes(great)
    names = [stay[NAME] for stay in stays]
    return [houses.index(name) if isinstance(name, str) else name for name in names]


def same_deeds(stays, houses, node, part, stay):
    """The deeds of a node at a stay that are that of its part of the way but for slices."""
    if houses[stay] != done_at(part):
        return []
    deeds = [deed for deed in deeds_at(stays, node, stay) if deed[0] == part[1]]
    return [deed for deed in deeds if tuple([houses[place] for place in deed[1]]) == ins_of(part)]


def same_steps(stays, houses, part, deeds):
    """For each stay those under it by which a node goes on to where it may do its deed, of its deeds by stays."""
    steps = []
    # What lies under a stay has the lesser number, so its steps are there already.
    for stay in range(len(stays)):
        within = [below for below in under_at(stays, stay) if houses[below] in part[0]]
        steps.append([below for below in within if deeds[below] or steps[below]])
    return steps


class SameWays:
    """All ways of a dated ground that are a way without dates but for slices; its values are read as LeastWays' are."""

    def __init__(self, great, dates, small, way):
        stays = dated(great, dates)
        houses = houses_of(great, stays)
        self.told = nodes(small)
        self.deeds = []
        self.steps = []
        for node, part in zip(self.told, ways_within(way)):
            deeds = []
            for stay in range(len(stays)):
                same = same_deeds(stays, houses, node, part, stay)
                deeds.append([deed for deed in same if self.may_go_on(node, deed)])
            self.deeds.append(deeds)
            self.steps.append(same_steps(stays, houses, part, deeds))
        self.begins = [stay for stay in range(len(stays)) if self.deeds[-1][stay]]

    def may_go_on(self, node, deed):
        """Whether each of a node's two may come in where one of its deeds lets it."""
        return all([self.deeds[half][stay] or self.steps[half][stay] for half, stay in zip(halves(node), deed[1])])


def with_dates(great, dates, small, way):
    """The first, as tuples rise, of the ways of the dated ground that are this way but for slices, None for none."""
    ways = SameWays(great, dates, small, way)
    if not ways.begins:
        return None
    return led(ways.told, ways.begins[0], lambda number, stay: first_pick(ways, number, stay))
