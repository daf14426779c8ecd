import copy
import unittest

from cases import MOST, PRICES, SMALLS, grounds, wide_cases
from listing import all_ways, cost_of, least_of, least_ways, taken
from things import Equal, Grim, nested, odd_things
from treewithin.dating import dated
from treewithin.grounds import ground
from treewithin.leastways import least_way
from treewithin.tablelooks import shows_least, shows_table
from treewithin.tables import least, table

ENDLESS = float("inf")
TWO = ground(("a", "b"))
SOME = PRICES[:4] + PRICES[7:8] + PRICES[-2:]
FEW = ("a", ("a", "b"), ("a", "a"), (("a", "b"), "a"))


def with_entry(rows, node, stay, entry):
    """The rows with one entry otherwise."""
    row = rows[node][:stay] + (entry,) + rows[node][stay + 1:]
    return rows[:node] + (row,) + rows[node + 1:]


def each_entry(rows):
    """(node, stay, entry) of all entries."""
    return [(node, stay, entry) for node, row in enumerate(rows) for stay, entry in enumerate(row)]


def misshapen(rows):
    """Things that come of the rows and have not their form."""
    told = [
        list(rows), tuple(list(row) for row in rows), rows[:-1], rows[1:], rows + rows[-1:], rows + ((),), (rows,),
        tuple(row[:-1] for row in rows), tuple(row[1:] for row in rows), tuple(row + (0,) for row in rows),
        tuple(row + (None,) for row in rows), rows[:-1] + (list(rows[-1]),), rows[:-1] + (rows[-1] + (0,),),
        rows[:-1] + (rows[-1][:-1],), (rows[0] + (None,),) + rows[1:], (rows[0][:-1],) + rows[1:], (), ((),),
        rows[:-1] + (None,), rows[:-1] + (0,), rows[:-1] + ("",), rows[:-1] + (dict(enumerate(rows[-1])),),
        dict(enumerate(rows)), iter(rows), repr(rows), nested(rows, 60, lambda part: (part,)),
        tuple(nested(row, 60, lambda part: (part,)) for row in rows),
    ]
    for node, stay, entry in each_entry(rows):
        odd = [True, False, 0.0, "0", "", (), (entry,), [entry], Equal(), Grim(), ENDLESS, float("nan"), 1j, object()]
        if entry is not None:
            odd += [float(entry), str(entry), bool(entry)]
        told += [with_entry(rows, node, stay, other) for other in odd]
        told.append(with_entry(rows, node, stay, nested(entry, 60, lambda part: (part,))))
    return told


class ShowsTableTest(unittest.TestCase):
    def test_takes_the_table(self):
        for stays in grounds():
            for small in SMALLS:
                for prices in PRICES:
                    self.assertIs(shows_table(stays, small, prices, table(stays, small, prices)), True)

    def test_takes_it_on_wide_grounds(self):
        for great, stays, small in wide_cases():
            for prices in SOME:
                rows = table(stays, small, prices)
                self.assertIs(shows_table(stays, small, prices, rows), True)
                self.assertIs(shows_table(stays, small, prices, with_entry(rows, len(rows) - 1, 0, -1)), False)

    def test_not_with_one_entry_otherwise(self):
        for stays in grounds():
            for small in FEW:
                for prices in ((0, 2, 3, 1), (0, 0, 0, 0), (MOST, MOST, MOST, MOST)):
                    rows = table(stays, small, prices)
                    for node, stay, entry in each_entry(rows):
                        others = (0, 1, -1, MOST) if entry is None else (entry + 1, entry - 1, -entry - 1, None)
                        for other in others:
                            thing = with_entry(rows, node, stay, other)
                            self.assertIs(shows_table(stays, small, prices, thing), False, thing)

    def test_not_in_another_form(self):
        for stays in grounds():
            for small in FEW:
                for prices in ((0, 2, 3, 1), (1, 1, 1, 0)):
                    for thing in misshapen(table(stays, small, prices)):
                        self.assertIs(shows_table(stays, small, prices, thing), False)

    def test_not_that_of_other_prices_trees_or_grounds(self):
        rows = table(TWO, ("a", "b"), (0, 2, 3, 1))
        self.assertIs(shows_table(TWO, ("a", "b"), (0, 2, 3, 1), rows), True)
        self.assertIs(shows_table(TWO, ("a", "b"), (0, 2, 4, 1), rows), False)
        self.assertIs(shows_table(TWO, ("b", "a"), (0, 2, 3, 1), rows), False)
        self.assertIs(shows_table(TWO, "a", (0, 2, 3, 1), rows), False)
        self.assertIs(shows_table(ground(("b", "a")), ("a", "b"), (0, 2, 3, 1), rows), False)

    def test_of_anything(self):
        for stays in grounds()[:2]:
            for small in FEW:
                for thing in odd_things() + [stays, small, least_way(stays, small, PRICES[0])]:
                    self.assertIs(shows_table(stays, small, PRICES[0], thing), False)


class ShowsLeastTest(unittest.TestCase):
    def test_takes_each_least_way_with_the_table_and_no_other(self):
        for stays in grounds():
            for small in FEW:
                ways = all_ways(stays, small)
                for prices in SOME:
                    rows = table(stays, small, prices)
                    cost = least_of(stays, ways, prices)
                    for way in ways[:200]:
                        told = shows_least(stays, small, prices, way, rows)
                        self.assertIs(told, cost_of(stays, way, prices) == cost)

    def test_takes_it_on_wide_grounds(self):
        for great, stays, small in wide_cases():
            for prices in SOME:
                rows = table(stays, small, prices)
                self.assertIs(shows_least(stays, small, prices, least_way(stays, small, prices), rows), True)

    def test_one_entry_otherwise(self):
        seen = {True: 0, False: 0}
        for stays in grounds():
            for small in FEW:
                for prices in ((0, 2, 3, 1), (0, 0, 0, 0), (1, 7, 2, 0), (MOST, 1, MOST, 0)):
                    rows = table(stays, small, prices)
                    way = least_way(stays, small, prices)
                    for node, stay, entry in each_entry(rows):
                        others = (-MOST, 0, 1, 9, 99 * MOST)
                        if entry is not None:
                            others += (entry - 1, entry + 1, None)
                        for other in others:
                            thing = with_entry(rows, node, stay, other)
                            told = shows_least(stays, small, prices, way, thing)
                            self.assertIs(told, taken(stays, small, prices, way, thing), thing)
                            seen[told] += 1
        self.assertGreater(min(seen.values()), 500)

    def test_an_entry_more_than_one_put_together(self):
        rows = table(TWO, ("a", "b"), (0, 2, 3, 1))
        way = ((2,), "split", ((0,), "found"), ((1,), "found"))
        self.assertEqual(rows, ((0, None, 1), (None, 0, 1), (3, 3, 0)))
        # More than found, than a step, than over, than split; None is more than all.
        for node, stay, entry in (
            (0, 0, 1), (0, 0, None), (0, 2, 2), (0, 2, None), (2, 0, 4), (2, 1, 4), (2, 0, None), (2, 2, 1), (2, 2, None),
        ):
            self.assertIs(shows_least(TWO, ("a", "b"), (0, 2, 3, 1), way, with_entry(rows, node, stay, entry)), False)
        self.assertIs(shows_least(TWO, ("a", "b"), (0, 2, 3, 1), way, rows), True)

    def test_more_than_doubled(self):
        way = ((0,), "doubled", ((0,), "found"), ((0,), "found"))
        stays = ground("a")
        self.assertIs(shows_least(stays, ("a", "a"), (0, 2, 3, 1), way, ((0,), (0,), (2,))), True)
        self.assertIs(shows_least(stays, ("a", "a"), (0, 2, 3, 1), way, ((0,), (0,), (3,))), False)
        self.assertIs(shows_least(stays, ("a", "a"), (0, 2, 3, 1), way, ((0,), (0,), (1,))), False)
        self.assertIs(shows_least(stays, ("a", "a"), (0, 2, 3, 1), way, ((0,), (-1,), (2,))), False)
        self.assertIs(shows_least(stays, ("a", "a"), (0, 2, 3, 1), way, ((-1,), (0,), (1,))), False)
        self.assertIs(shows_least(stays, "a", (0, 2, 3, 1), ((0,), "found"), ((0,),)), True)
        self.assertIs(shows_least(stays, "a", (0, 2, 3, 1), ((0,), "found"), ((None,),)), False)
        self.assertIs(shows_least(stays, "a", (0, 2, 3, 1), ((0,), "found"), ((1,),)), False)

    def test_more_than_a_step_where_a_house_goes_on(self):
        stays = dated(("a", ("b", "c")), (0, 0, 0, 4, 9))
        way = ((0,), "found")
        rows = table(stays, "a", (0, 2, 3, 1))
        self.assertEqual(rows, ((0, None, None, 0, None, 1),))
        self.assertIs(shows_least(stays, "a", (0, 2, 3, 1), way, rows), True)
        self.assertIs(shows_least(stays, "a", (0, 2, 3, 1), way, with_entry(rows, 0, 3, 1)), False)
        self.assertIs(shows_least(stays, "a", (0, 2, 3, 1), way, with_entry(rows, 0, 5, 2)), False)
        self.assertIs(shows_least(stays, "a", (0, 2, 3, 1), way, with_entry(rows, 0, 5, 0)), True)

    def test_takes_lesser_entries(self):
        for great, stays, small in wide_cases():
            prices = (2, 3, 4, 1)
            way = least_way(stays, small, prices)
            rows = table(stays, small, prices)
            cost = least(stays, small, prices)
            flat = rows[:-1] + (tuple(cost for stay in stays),)
            self.assertIs(shows_least(stays, small, prices, way, flat), True)
            self.assertIs(shows_least(stays, small, prices, way, with_entry(flat, len(rows) - 1, 0, cost - 1)), False)
            self.assertIs(shows_least(stays, small, prices, way, rows[:-1] + (tuple(cost + 1 for stay in stays),)), False)

    def test_takes_a_table_of_lesser_prices_where_it_tells_as_much(self):
        # Nothing is doubled in the least way, so a lesser price for it is no matter.
        way = ((2,), "split", ((0,), "found"), ((1,), "found"))
        rows = table(TWO, ("a", "b"), (1, 5, 3, 1))
        self.assertIs(shows_least(TWO, ("a", "b"), (1, 9, 3, 1), way, rows), True)
        self.assertIs(shows_least(TWO, ("a", "b"), (1, 9, 9, 9), way, rows), True)
        self.assertIs(shows_least(TWO, ("a", "b"), (2, 9, 9, 9), way, rows), False)
        self.assertIs(shows_least(TWO, ("a", "b"), (0, 9, 9, 9), way, rows), False)

    def test_not_in_another_form(self):
        for stays in grounds():
            for small in FEW:
                way = least_way(stays, small, (0, 2, 3, 1))
                for thing in misshapen(table(stays, small, (0, 2, 3, 1))):
                    self.assertIs(shows_least(stays, small, (0, 2, 3, 1), way, thing), False)

    def test_not_what_is_no_way(self):
        for stays in grounds():
            for small in FEW:
                for prices in ((0, 2, 3, 1), (0, 0, 0, 0)):
                    rows = table(stays, small, prices)
                    way = least_way(stays, small, prices)
                    no_ways = [list(way), way[:1], way + way, (list(way[0]),) + way[1:], (way[0] + way[0],) + way[1:],
                               ((way[0][0] - 100,),) + way[1:], ((True,),) + way[1:], (way[0], "lost") + way[2:],
                               (way[0], Grim()) + way[2:], (way[0], Equal()) + way[2:], (Grim(),) + way[1:],
                               nested(way, 60, lambda part: (way[0], "doubled", part, part)), rows, stays, small]
                    for thing in no_ways + odd_things():
                        self.assertIs(shows_least(stays, small, prices, thing, rows), False)

    def test_not_a_way_of_another_tree(self):
        for stays in grounds():
            for small in FEW:
                for other in FEW:
                    way = least_way(stays, other, (0, 2, 3, 1))
                    told = shows_least(stays, small, (0, 2, 3, 1), way, table(stays, small, (0, 2, 3, 1)))
                    self.assertIs(told, other == small)

    def test_of_anything(self):
        for stays in grounds()[:2]:
            for small in FEW:
                way = least_way(stays, small, PRICES[0])
                for thing in odd_things():
                    self.assertIs(shows_least(stays, small, PRICES[0], way, thing), False)
                    self.assertIs(shows_least(stays, small, PRICES[0], thing, thing), False)

    def test_asked_again_the_same_is_told(self):
        for stays in grounds():
            for small in FEW:
                rows = table(stays, small, PRICES[0])
                ways = least_ways(stays, all_ways(stays, small), PRICES[0])
                before = copy.deepcopy((stays, small, ways, rows))
                for turn in range(2):
                    self.assertIs(shows_table(stays, small, PRICES[0], rows), True)
                    self.assertIs(shows_least(stays, small, PRICES[0], ways[-1], rows), True)
                self.assertEqual((stays, small, ways, rows), before)
