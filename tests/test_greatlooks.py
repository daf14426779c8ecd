import copy
import unittest

from cases import MOST, PRICES, woven
from listing import all_ways, cost_of, taken
from things import Equal, Grim, nested, odd_things
from treewithin.grounds import ground
from treewithin.greatlooks import shows_best
from treewithin.greats import best_great, best_paper, great_trees
from treewithin.numbers import how_many, way_at
from treewithin.tablelooks import shows_least
from treewithin.tables import least, table
from treewithin.trees import leaves, text_of

SMALLS = (("b", ("c", "a")), ("a", "c"))
PRICED = (1, 2, 3, 1)
SEVERAL = (
    ("a",), (("a", "a"),), ("b", "a"), (("b", "a"), ("a", "b")), ((("a", "c"), "b"),), SMALLS,
    ((("c", "b"), ("a", "c")), ("a", "b"), "c", ("b", "c")), ((("a", "d"), ("c", "b")), (("a", "c"), "a")),
)
SOME = ((0, 2, 3, 1), (0, 0, 0, 0), (1, 1, 1, 1), (5, 1, 1, 1), (0, MOST, 1, MOST), (MOST, MOST - 1, MOST - 2, MOST - 3))


def put(row, place, *parts):
    """A tuple with other parts in a place."""
    return row[:place] + parts + row[place + 1:]


def words_in(smalls):
    return tuple(sorted({word for small in smalls for word in leaves(small)}))


def papered(smalls, prices):
    """The cost, the trees and the paper as they are told."""
    return best_great(smalls, prices) + (best_paper(smalls, prices),)


def changed(thing, change):
    """All things that come of changing one part of a nested tuple, itself too."""
    told = list(change(thing))
    if isinstance(thing, tuple):
        for place, part in enumerate(thing):
            told += [put(thing, place, other) for other in changed(part, change)]
    return told


def never_taken(part):
    """What can't stand in the place of a part, whatever it is."""
    told = [Equal(), Grim(), {}, 0.5, "", b"", object(), nested(part, 60, lambda inner: (inner,))]
    if isinstance(part, tuple):
        return told + [list(part), part + (Grim(),), iter(part), None]
    if isinstance(part, int):
        return told + [bool(part), float(part), str(part), (part,)]
    return told + ([False, 0.0, "None"] if part is None else [part + "x", (part,), None])


class ShowsBestTest(unittest.TestCase):
    def takes(self, case, cost, trees, paper):
        self.assertIs(shows_best(*case, cost, trees, paper), True)

    def refuses(self, case, cost, trees, paper):
        self.assertIs(shows_best(*case, cost, trees, paper), False)

    def test_takes_what_is_told(self):
        for smalls in SEVERAL:
            for prices in PRICES:
                self.takes((smalls, prices), *papered(smalls, prices))

    def test_five_words_and_small_trees_of_ten_leaves(self):
        for smalls in ((woven("abcde", 10), woven("edcba", 9)), (woven("abcde", 5), "e", woven("acd", 7), ("b", "b"))):
            case = (smalls, (0, 2, 3, 1))
            cost, trees, paper = papered(*case)
            self.takes(case, cost, trees, paper)
            self.refuses(case, cost + 1, trees, paper)
            self.refuses(case, cost, trees[1:], paper)
            self.refuses(case, cost, trees, paper[:-1])

    def test_takes_other_least_ways(self):
        seen = 0
        for smalls in SEVERAL:
            for prices in SOME:
                case = (smalls, prices)
                cost, trees, paper = papered(*case)
                for place, great in enumerate(great_trees(words_in(smalls))):
                    stays = ground(great)
                    for own, small in enumerate(smalls):
                        way = way_at(stays, small, prices, how_many(stays, small, prices) - 1)
                        seen += way != paper[place][0][own]
                        pair = (put(paper[place][0], own, way), paper[place][1])
                        self.takes(case, cost, trees, put(paper, place, pair))
        self.assertGreater(seen, 50)

    def test_takes_other_tables_and_only_those_that_shows_least_takes(self):
        seen = {True: 0, False: 0}
        for smalls in SEVERAL[:6]:
            for prices in SOME:
                case = (smalls, prices)
                cost, trees, paper = papered(*case)
                for place, great in enumerate(great_trees(words_in(smalls))):
                    stays = ground(great)
                    for own, small in enumerate(smalls):
                        way, rows = (part[own] for part in paper[place])
                        flat = tuple(least(stays, small, prices) for stay in stays)
                        others = [put(rows, len(rows) - 1, flat), put(rows, len(rows) - 1, tuple(1 + each for each in flat))]
                        others += [put(rows, 0, put(rows[0], 0, entry)) for entry in (-1, 0, 1, None)]
                        others += [put(rows, 0, tuple(-1 for stay in stays)), rows[:-1] + (rows[-1][:-1] + (-1,),)]
                        for thing in others:
                            expected = taken(stays, small, prices, way, thing)
                            seen[expected] += 1
                            pair = (paper[place][0], put(paper[place][1], own, thing))
                            told = shows_best(*case, cost, trees, put(paper, place, pair))
                            self.assertIs(told, expected)
        self.assertGreater(min(seen.values()), 100)

    def test_not_another_cost(self):
        for smalls in SEVERAL:
            for prices in SOME:
                cost, trees, paper = papered(smalls, prices)
                for other in (
                    cost + 1, cost - 1, -cost - 1, cost + MOST, None, (cost,), [cost], str(cost), float(cost), True, False,
                    Equal(), Grim(), cost + 0j,
                ):
                    self.refuses((smalls, prices), other, trees, paper)

    def test_no_truth_in_the_place_of_the_cost(self):
        for cost, smalls in ((0, ("a",)), (1, (("a", "b"),))):
            case = (smalls, (1, 2, 3, 4))
            told = papered(*case)
            self.assertEqual(told[0], cost)
            self.takes(case, *told)
            self.refuses(case, bool(cost), *told[1:])

    def test_not_the_cost_of_other_trees(self):
        case = (SMALLS, PRICED)
        cost, trees, paper = papered(*case)
        costs = {great: sum(least(ground(great), small, PRICED) for small in SMALLS) for great in great_trees(("a", "b", "c"))}
        self.assertGreater(len(set(costs.values())), 1)
        for other in set(costs.values()):
            those = tuple(great for great in costs if costs[great] == other)
            self.assertIs(shows_best(*case, other, those, paper), (other, those) == (cost, trees))

    def test_not_other_trees(self):
        for smalls in SEVERAL[:7]:
            for prices in SOME[:4]:
                case = (smalls, prices)
                cost, trees, paper = papered(*case)
                greats = great_trees(words_in(smalls))
                others = [
                    trees[1:], trees[:-1], trees + trees[-1:], trees[:1] + trees, trees + ("z",), (), (trees,), list(trees),
                    trees[0], tuple(list(tree) for tree in trees), None, dict.fromkeys(trees), iter(trees), repr(trees),
                    trees + (None,), (Equal(),) * len(trees), (Grim(),) * len(trees), nested(trees, 60, lambda part: (part,)),
                ]
                others += [put(trees, place, great) for place in range(len(trees)) for great in greats]
                others += [trees[::-1], trees[1:] + trees[:1], greats, greats[:1], greats[1:]]
                others += [tuple(sorted(trees + (great,), key=text_of)) for great in greats]
                for place, tree in enumerate(trees):
                    if isinstance(tree, tuple):
                        others += [put(trees, place, tree[::-1]), put(trees, place, list(tree))]
                        others += [put(trees, place, (tree[0][::-1], tree[1])), put(trees, place, (list(tree[0]), tree[1]))]
                for other in others:
                    expected = isinstance(other, tuple) and repr(other) == repr(trees)
                    self.assertIs(shows_best(*case, cost, other, paper), expected)

    def test_not_trees_out_of_order_or_not_plain(self):
        case = ((("b", ("c", "a")),), (5, 2, 3, 1))
        cost, trees, paper = papered(*case)
        self.assertEqual(trees, ((("a", "b"), "c"), (("a", "c"), "b"), (("b", "c"), "a")))
        self.takes(case, cost, trees, paper)
        self.refuses(case, cost, (trees[1], trees[0], trees[2]), paper)
        self.refuses(case, cost, trees[::-1], paper)
        self.refuses(case, cost, (("c", ("a", "b")),) + trees[1:], paper)
        self.refuses(case, cost, ((("b", "a"), "c"),) + trees[1:], paper)
        for other in changed(trees, never_taken):
            self.refuses(case, cost, other, paper)

    def test_not_a_paper_with_a_pair_left_out_more_or_out_of_order(self):
        for smalls in SEVERAL:
            for prices in SOME:
                case = (smalls, prices)
                cost, trees, paper = papered(*case)
                for place in range(len(paper)):
                    self.refuses(case, cost, trees, paper[:place] + paper[place + 1:])
                    self.refuses(case, cost, trees, paper[:place] + paper[place:place + 1] + paper[place:])
                self.refuses(case, cost, trees, ())
                self.refuses(case, cost, trees, list(paper))
                self.refuses(case, cost, trees, (paper,))
        case = (SMALLS, PRICED)
        cost, trees, paper = papered(*case)
        self.refuses(case, cost, trees, paper[::-1])
        self.refuses(case, cost, trees, paper[1:] + paper[:1])
        self.refuses(case, cost, trees, (paper[1], paper[0], paper[2]))

    def test_not_a_pair_of_another_form(self):
        case = (SMALLS, PRICED)
        cost, trees, paper = papered(*case)
        for place, (ways, tables) in enumerate(paper):
            for pair in (
                (ways,), (ways, tables, tables), (tables, ways), [ways, tables], (list(ways), tables), (ways, list(tables)),
                (ways[:1], tables[:1]), (ways[:1], tables), (ways, tables[:1]), (ways + ways[:1], tables + tables[:1]),
                (ways + ways[:1], tables), (ways, tables + tables[:1]), (ways[::-1], tables[::-1]), (ways[::-1], tables),
                (ways, tables[::-1]), (ways, ()), ((), ()), (), None, ways, tables, tuple(zip(ways, tables)),
                dict(zip(ways, tables)), (Grim(), Grim()), (Equal(), Equal()), (ways, Equal()), (Equal(), tables),
            ):
                self.refuses(case, cost, trees, put(paper, place, pair))

    def test_not_a_way_that_costs_more(self):
        seen = 0
        case = (SMALLS, PRICED)
        cost, trees, paper = papered(*case)
        for place, great in enumerate(great_trees(("a", "b", "c"))):
            stays = ground(great)
            for own, small in enumerate(SMALLS):
                for way in all_ways(stays, small)[::3]:
                    dear = cost_of(stays, way, PRICED) > least(stays, small, PRICED)
                    seen += dear
                    pair = (put(paper[place][0], own, way), paper[place][1])
                    self.assertIs(shows_best(*case, cost, trees, put(paper, place, pair)), not dear)
        self.assertGreater(seen, 20)

    def test_dear_ways_show_no_other_cost(self):
        # Every great tree costs more by these ways, and the tables are raised with them.
        case = ((("a", "b"),), (0, 2, 3, 1))
        way = ((2,), "doubled", ((2, 0), "found"), ((2, 1), "found"))
        rows = table(ground(("a", "b")), ("a", "b"), (4, 2, 3, 1))
        for raised in (rows, rows[:-1] + ((4, 4, 4),), rows[:-1] + ((3, 3, 4),)):
            self.refuses(case, 4, (("a", "b"),), (((way,), (raised,)),))

    def test_not_a_way_or_table_of_another_small_tree_or_great_tree(self):
        case = (SMALLS, PRICED)
        cost, trees, paper = papered(*case)
        greats = great_trees(("a", "b", "c"))
        seen = {True: 0, False: 0}
        for place, great in enumerate(greats):
            stays = ground(great)
            for other in greats:
                for mistaken in SMALLS + (("a", ("b", "c")), "a"):
                    way = way_at(ground(other), mistaken, PRICED, 0)
                    rows = table(ground(other), mistaken, PRICED)
                    for own, small in enumerate(SMALLS):
                        ways, tables = paper[place]
                        for pair, expected in (
                            ((put(ways, own, way), tables), shows_least(stays, small, PRICED, way, tables[own])),
                            ((ways, put(tables, own, rows)), shows_least(stays, small, PRICED, ways[own], rows)),
                            ((put(ways, own, way), put(tables, own, rows)), shows_least(stays, small, PRICED, way, rows)),
                        ):
                            seen[expected] += 1
                            self.assertIs(shows_best(*case, cost, trees, put(paper, place, pair)), expected)
        self.assertGreater(seen[False], 3 * seen[True])

    def test_not_that_of_other_prices_or_trees(self):
        told = papered(SMALLS, PRICED)
        self.takes((SMALLS, PRICED), *told)
        self.refuses((SMALLS, (1, 2, 2, 1)), *told)
        self.refuses((SMALLS, (0, 2, 3, 1)), *told)
        self.refuses((SMALLS[::-1], PRICED), *told)
        self.refuses((SMALLS[:1], PRICED), *told)
        self.refuses((SMALLS + ("a",), PRICED), *told)

    def test_not_with_one_part_of_another_kind(self):
        for smalls in (("a",), (("b", "a"),), SMALLS):
            case = (smalls, PRICED)
            cost, trees, paper = papered(*case)
            for other in changed(trees, never_taken):
                self.refuses(case, cost, other, paper)
            for other in changed(paper, never_taken):
                self.refuses(case, cost, trees, other)

    def test_of_anything(self):
        for smalls in SEVERAL[:4]:
            case = (smalls, PRICED)
            cost, trees, paper = papered(*case)
            for thing in odd_things():
                if repr(thing) != repr(cost):
                    self.refuses(case, thing, trees, paper)
                self.refuses(case, cost, trees, thing)
                self.refuses(case, cost, trees, (thing,) * len(paper))
                self.refuses(case, cost, trees, ((thing, thing),) * len(paper))
                self.refuses(case, cost, trees, (((thing,) * len(smalls),) * 2,) * len(paper))
                if repr(thing) != repr(trees):
                    self.refuses(case, cost, thing, paper)
                self.refuses(case, cost, (thing,) * 2, paper)
                self.refuses(case, thing, thing, thing)
            for deep in (1, 30, 60):
                self.refuses(case, cost, trees, nested(paper, deep, lambda part: (part,)))
                self.refuses(case, cost, nested(trees, deep, lambda part: (part,)), paper)
                self.refuses(case, nested(cost, deep, lambda part: (part,)), trees, paper)
                self.refuses(case, cost, (nested("a", deep, lambda part: (part, part)),), paper)

    def test_asked_again_the_same_is_told(self):
        for smalls in SEVERAL:
            told = papered(smalls, PRICED)
            before = copy.deepcopy((smalls, told))
            for turn in range(2):
                self.takes((smalls, PRICED), *told)
                self.refuses((smalls, PRICED), told[0] + 1, *told[1:])
            self.assertEqual((smalls, told), before)
