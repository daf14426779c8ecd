"""All ways listed one by one, straight by the words of the document, to hold the program against."""

import collections
import itertools


def parts(tree):
    """The trees within a tree, itself too, as its nodes are numbered."""
    if isinstance(tree, str):
        return [tree]
    return parts(tree[0]) + parts(tree[1]) + [tree]


def paths_from(ground, stay):
    """All paths that come in at a stay."""
    told = [(stay,)]
    for below in ground[stay][2]:
        told += [(stay,) + path for path in paths_from(ground, below)]
    return told


def entries_of(ground, stay):
    """For each deed at a stay the pairs of stays at which its two may come in."""
    under, beside = ground[stay][2:]
    told = {("doubled", (stay, stay))}
    if len(under) == 2:
        told |= {("split", under), ("split", under[::-1])}
    for far in beside:
        told |= {("over", (stay, far)), ("over", (far, stay))}
    return sorted(told)


def deeds_at(ground, tree, stay, known):
    """What may stand behind the path in a way of a tree that does its deed at a stay."""
    if isinstance(tree, str):
        return [("found",)] if ground[stay][0] == tree and not ground[stay][2] else []
    told = []
    for deed, (one, other) in entries_of(ground, stay):
        pairs = itertools.product(ways_from(ground, tree[0], one, known), ways_from(ground, tree[1], other, known))
        told += [(deed,) + pair for pair in pairs]
    return told


def ways_from(ground, tree, stay, known):
    """All ways of a tree that come in at a stay, by paths of any length."""
    if (tree, stay) not in known:
        known[tree, stay] = [
            (path,) + rest for path in paths_from(ground, stay) for rest in deeds_at(ground, tree, path[-1], known)
        ]
    return known[tree, stay]


def all_ways(ground, small):
    """All ways of a small tree."""
    known = {}
    return [
        ((stay,),) + rest for stay in range(len(ground)) for rest in deeds_at(ground, small, stay, known)
    ]


def count_of(ground, way):
    """(split, doubled, over, lost) of a way."""
    path, deed = way[:2]
    own = (int(deed == "split"), int(deed == "doubled"), int(deed == "over"), lost_on(ground, path))
    return tuple(sum(four) for four in zip(own, *[count_of(ground, half) for half in way[2:]]))


def cost_of(ground, way, prices):
    """What a way costs."""
    split, doubled, over, lost = count_of(ground, way)
    return split * prices[0] + doubled * prices[1] + over * prices[2] + lost * prices[3]


def least_of(ground, ways, prices):
    """The least that one of the ways costs, None where there is none."""
    return min([cost_of(ground, way, prices) for way in ways], default=None)


def least_ways(ground, ways, prices):
    """Those of the ways that cost the least, as tuples rise."""
    cost = least_of(ground, ways, prices)
    return sorted(way for way in ways if cost_of(ground, way, prices) == cost)


def kept_ways(ground, small, prices):
    """The least ways as tuples rise, of a ground too wide to list all: none is kept that costs more from its stay."""
    known = {}

    def cheapest(pairs):
        cost = min([cost for cost, way in pairs], default=None)
        return [pair for pair in pairs if pair[0] == cost]

    def done_from(tree, path):
        lost = prices[3] * lost_on(ground, path)
        if isinstance(tree, str):
            return [(lost, (path, deed)) for deed, ins in doings(ground, tree, path[-1])]
        told = []
        for deed, ins in doings(ground, tree, path[-1]):
            own = {"split": prices[0], "doubled": prices[1], "over": prices[2]}[deed] + lost
            for (one, first), (other, second) in itertools.product(kept(tree[0], ins[0]), kept(tree[1], ins[1])):
                told.append((own + one + other, (path, deed, first, second)))
        return cheapest(told)

    def kept(tree, stay):
        if (tree, stay) not in known:
            known[tree, stay] = cheapest(
                [pair for path in paths_from(ground, stay) for pair in done_from(tree, path)]
            )
        return known[tree, stay]

    told = [pair for stay in range(len(ground)) for pair in done_from(small, (stay,))]
    return sorted(way for cost, way in cheapest(told))


def numbered(way):
    """The ways of the nodes within a way, its own too, as the nodes are numbered."""
    return [part for half in way[2:] for part in numbered(half)] + [way]


def marks_of(way):
    """The (node, stay, deed) of a way."""
    return [(node, part[0][-1], part[1]) for node, part in enumerate(numbered(way))]


def goings_of(way):
    """The (node, from, to) of a way."""
    told = []
    for node, part in enumerate(numbered(way)):
        if part[1] == "over":
            ins = [half[0][0] for half in part[2:]]
            ins.remove(part[0][-1])
            told.append((node, part[0][-1], ins[0]))
    return told


def entries_of_way(way):
    """The (node, stay) at which the nodes of a way come in."""
    return [(node, part[0][0]) for node, part in enumerate(numbered(way))]


def lost_on(ground, path):
    """How often a path loses."""
    return sum(len(ground[stay][2]) == 2 for stay in path[:-1])


def doings(ground, tree, stay):
    """For each deed of a tree at a stay where its two come in."""
    if isinstance(tree, str):
        return [("found", ())] if ground[stay][0] == tree and not ground[stay][2] else []
    return entries_of(ground, stay)


def many_by_cost(ground, small, prices, takes=lambda node, entry, stay, deed, ins: True):
    """How many ways of a small tree there are, by what they cost, without listing them.

    Only those count of which each node's number, where it comes in, where it
    does its deed, this deed, and where its two come in are taken.
    """
    known = {}
    last = len(parts(small)) - 1

    def from_stay(node, tree, entry):
        if (node, entry) in known:
            return known[node, entry]
        told = collections.Counter()
        for path in [(entry,)] if node == last else paths_from(ground, entry):
            for deed, ins in doings(ground, tree, path[-1]):
                if takes(node, entry, path[-1], deed, ins):
                    own = {"found": 0, "split": prices[0], "doubled": prices[1], "over": prices[2]}[deed]
                    told.update(onward(node, tree, ins, own + prices[3] * lost_on(ground, path)))
        known[node, entry] = told
        return told

    def onward(node, tree, ins, cost):
        if isinstance(tree, str):
            return {cost: 1}
        told = collections.Counter()
        for one, many in from_stay(node - 1 - len(parts(tree[1])), tree[0], ins[0]).items():
            for other, more in from_stay(node - 1, tree[1], ins[1]).items():
                told[cost + one + other] += many * more
        return told

    told = collections.Counter()
    for stay in range(len(ground)):
        told.update(from_stay(last, small, stay))
    return told


def all_dates(great):
    """All dates of a great tree of the numbers from 1 on, one for each order in which its houses may split."""
    trees = parts(great)
    splits = [house for house, tree in enumerate(trees) if not isinstance(tree, str)]
    under = {house: (house - 1 - len(parts(trees[house][1])), house - 1) for house in splits}
    told = []
    for order in itertools.permutations(range(1, len(splits) + 1)):
        dates = dict(zip(splits, order))
        if all(dates[house] > dates.get(half, 0) for house in splits for half in under[house]):
            told.append(tuple(dates.get(house, 0) for house in range(len(trees))))
    return told


def houses_of(great, stays):
    """For each stay of a dated ground the number of its house."""
    trees = parts(great)
    return [trees.index(stay[0]) if isinstance(stay[0], str) else stay[0] for stay in stays]


def once(path):
    """A path of houses without those at which it stays."""
    return tuple(house for house, others in itertools.groupby(path))


def may_be_led(great, stays, way):
    """Whether there is a way of a dated ground that is the same as one without dates, but for slices."""
    houses = houses_of(great, stays)

    def leads(part, path):
        if once(houses[stay] for stay in path) != part[0]:
            return False
        if part[1] == "found":
            return not stays[path[-1]][2]
        return any(
            deed == part[1] and comes(part[2], ins[0]) and comes(part[3], ins[1])
            for deed, ins in entries_of(stays, path[-1])
        )

    def comes(part, stay):
        if (part, stay) not in known:
            known[part, stay] = any(leads(part, path) for path in paths_from(stays, stay))
        return known[part, stay]

    known = {}
    return any(leads(way, (stay,)) for stay in range(len(stays)))


def numbers_of_halves(tree, node):
    """The numbers of the one and the other of the node with this number, whose tree it is."""
    return () if isinstance(tree, str) else (node - 1 - len(parts(tree[1])), node - 1)


def above_of(tree):
    """For each node the number of the node ahead of it, None of the last one."""
    trees = parts(tree)
    above = {half: node for node, part in enumerate(trees) for half in numbers_of_halves(part, node)}
    return [above.get(node) for node in range(len(trees))]


def listed_links(great, small, way):
    """The links, by the words of the document."""
    trees = parts(great)
    above = above_of(great)
    ways = numbered(way)
    moments = []
    for number, part in enumerate(ways):
        if part[1] == "split":
            moments.append(("house", part[0][-1]))
        else:
            moments.append(None if part[1] == "found" else ("thing", number))
    told = set()
    for number, tree in enumerate(trees):
        if isinstance(tree, tuple) and above[number] is not None:
            told.add((("house", above[number]), ("house", number)))
    for number, above_it in enumerate(above_of(small)):
        if above_it is not None and moments[number] is not None:
            told.add((moments[above_it], moments[number]))
    for number, part in enumerate(ways):
        if part[1] in ("doubled", "over"):
            held = {part[0][-1]}
            if part[1] == "over":
                held |= {half[0][0] for half in part[2:]}
            for place in held:
                if above[place] is not None:
                    told.add((("house", above[place]), ("thing", number)))
                if isinstance(trees[place], tuple):
                    told.add((("thing", number), ("house", place)))
    return tuple(sorted(told))


def is_same(great, stays, way, other):
    """Whether a way of a dated ground is one without dates but for slices."""
    houses = houses_of(great, stays)
    pairs = list(zip(numbered(way), numbered(other)))
    return len(numbered(way)) == len(numbered(other)) and all(
        once(houses[stay] for stay in led[0]) == part[0] and led[1] == part[1] for part, led in pairs
    )


def same_ways(great, stays, way):
    """All ways of a dated ground that are one without dates but for slices, without listing all others."""
    houses = houses_of(great, stays)
    known = {}

    def behind(part, path):
        if once(houses[stay] for stay in path) != part[0]:
            return []
        if part[1] == "found":
            return [("found",)] if not stays[path[-1]][2] else []
        told = []
        for deed, ins in entries_of(stays, path[-1]):
            if deed == part[1]:
                told += [(deed, *pair) for pair in itertools.product(comes(part[2], ins[0]), comes(part[3], ins[1]))]
        return told

    def comes(part, stay):
        if houses[stay] != part[0][0]:
            return []
        if (part, stay) not in known:
            known[part, stay] = [(path, *rest) for path in paths_from(stays, stay) for rest in behind(part, path)]
        return known[part, stay]

    return [((stay,), *rest) for stay in range(len(stays)) for rest in behind(way, (stay,))]


def more(entry):
    """An entry as a number, None more than all."""
    return float("inf") if entry is None else entry


def holds(ground, small, prices, rows):
    """Whether each entry is no more than any that is put together, by the words of the document."""
    cost = {"found": 0, "split": prices[0], "doubled": prices[1], "over": prices[2]}
    for node, tree in enumerate(parts(small)):
        for stay in range(len(ground)):
            bounds = []
            for deed, ins in doings(ground, tree, stay):
                onward = [rows[half][place] for half, place in zip(numbers_of_halves(tree, node), ins)]
                if None not in onward:
                    bounds.append(cost[deed] + sum(onward))
            for below in ground[stay][2]:
                if rows[node][below] is not None:
                    bounds.append(rows[node][below] + (prices[3] if len(ground[stay][2]) == 2 else 0))
            if any(more(rows[node][stay]) > bound for bound in bounds):
                return False
    return True


def taken(ground, small, prices, way, rows):
    """What shows_least is to tell of a way and of rows."""
    cost = cost_of(ground, way, prices)
    return holds(ground, small, prices, rows) and all(cost <= more(entry) for entry in rows[-1])
