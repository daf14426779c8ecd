import collections
import copy
import unittest

from cases import PRICES, SMALLS, grounds, kept_cases, wide_cases
from listing import all_ways, entries_of_way, goings_of, kept_ways, least_ways, many_by_cost, marks_of, parts
from treewithin.dating import dated
from treewithin.grounds import ground
from treewithin.marking import entries, goings, marks, shared
from treewithin.numbers import how_many
from treewithin.tables import least

TWO = ground(("a", "b"))
SOME = ((0, 2, 3, 1), (0, 0, 0, 0), (1, 1, 1, 0))


def tally(ways, has):
    """The rising tuple of what the ways have, each with how many have it."""
    told = collections.Counter()
    for way in ways:
        told.update(set(has(way)))
    return tuple(sorted(told.items()))


def least_with(stays, small, prices, takes):
    """How many ways of the least cost there are with what is taken alone."""
    return many_by_cost(stays, small, prices, takes)[least(stays, small, prices)]


def some_of(told):
    """Some of what is told, the first and the last with it."""
    return told[:2] + told[2:-2:max(1, len(told) // 4)] + told[-2:]


class AllTest(unittest.TestCase):
    def test_on_wide_grounds(self):
        for stays, small, prices in kept_cases()[::2]:
            listed = kept_ways(stays, small, prices)
            told = tally(listed, marks_of)
            self.assertEqual(marks(stays, small, prices), told)
            self.assertEqual(shared(stays, small, prices), tuple(mark for mark, many in told if many == len(listed)))
            self.assertEqual(goings(stays, small, prices), tally(listed, goings_of))
            self.assertEqual(entries(stays, small, prices), tally(listed, entries_of_way))


class MarksTest(unittest.TestCase):
    def test_examples(self):
        self.assertEqual(marks(ground("a"), "a", (0, 0, 0, 0)), (((0, 0, "found"), 1),))
        self.assertEqual(marks(TWO, ("a", "b"), (0, 2, 3, 1)), (
            ((0, 0, "found"), 1), ((1, 1, "found"), 1), ((2, 2, "split"), 1),
        ))
        self.assertEqual(marks(TWO, ("a", "b"), (0, 0, 0, 0)), (
            ((0, 0, "found"), 4), ((1, 1, "found"), 4), ((2, 0, "over"), 1), ((2, 1, "over"), 1),
            ((2, 2, "doubled"), 1), ((2, 2, "split"), 1),
        ))

    def test_against_all_least_ways_one_by_one(self):
        for stays in grounds():
            for small in SMALLS:
                ways = all_ways(stays, small)
                for prices in PRICES:
                    listed = least_ways(stays, ways, prices)
                    self.assertEqual(marks(stays, small, prices), tally(listed, marks_of))

    def test_where_not_all_can_be_listed(self):
        for great, stays, small in wide_cases()[::3]:
            for prices in SOME:
                told = marks(stays, small, prices)
                self.assertEqual(told, tuple(sorted(dict(told).items())))
                sums = collections.Counter()
                for mark, many in told:
                    sums[mark[0]] += many
                # Each node does one deed in each least way.
                self.assertEqual(sums, {node: how_many(stays, small, prices) for node in range(len(parts(small)))})

    def test_some_counted_by_themselves(self):
        for great, stays, small in wide_cases()[-5::2]:
            for prices in SOME:
                for mark, many in some_of(marks(stays, small, prices)):
                    takes = lambda node, entry, stay, deed, ins: node != mark[0] or (node, stay, deed) == mark
                    self.assertEqual(least_with(stays, small, prices, takes), many)

    def test_kinds(self):
        for mark, many in marks(TWO, ("a", "b"), (0, 0, 0, 0)):
            self.assertEqual([type(part) for part in mark], [int, int, str])
            self.assertIs(type(mark), tuple)
            self.assertIs(type(many), int)


class SharedTest(unittest.TestCase):
    def test_examples(self):
        self.assertEqual(shared(ground("a"), "a", (0, 0, 0, 0)), ((0, 0, "found"),))
        self.assertEqual(shared(TWO, ("a", "b"), (0, 2, 3, 1)), ((0, 0, "found"), (1, 1, "found"), (2, 2, "split")))
        self.assertEqual(shared(TWO, ("a", "b"), (0, 0, 0, 0)), ((0, 0, "found"), (1, 1, "found")))
        self.assertEqual(shared(TWO, ("a", "a"), (0, 1, 1, 1)), (
            (0, 0, "found"), (1, 0, "found"), (2, 0, "doubled"),
        ))

    def test_against_all_least_ways_one_by_one(self):
        for stays in grounds():
            for small in SMALLS:
                ways = all_ways(stays, small)
                for prices in PRICES:
                    listed = least_ways(stays, ways, prices)
                    every = set(marks_of(listed[0])).intersection(*[marks_of(way) for way in listed])
                    self.assertEqual(shared(stays, small, prices), tuple(sorted(every)))

    def test_where_not_all_can_be_listed(self):
        for great, stays, small in wide_cases():
            for prices in SOME:
                many = how_many(stays, small, prices)
                every = tuple(mark for mark, often in marks(stays, small, prices) if often == many)
                self.assertEqual(shared(stays, small, prices), every)


class GoingsTest(unittest.TestCase):
    def test_examples(self):
        self.assertEqual(goings(ground("a"), "a", (0, 0, 0, 0)), ())
        self.assertEqual(goings(TWO, ("a", "b"), (0, 2, 3, 1)), ())
        self.assertEqual(goings(TWO, ("a", "b"), (0, 0, 0, 0)), (((2, 0, 1), 1), ((2, 1, 0), 1)))

    def test_where_the_one_goes_or_the_other(self):
        # Both go to house 1 from house 0, the one in some ways and the other in others.
        stays = ground(("a", "b"))
        small = (("a", "b"), ("a", "b"))
        told = dict(goings(stays, small, (9, 9, 1, 9)))
        listed = least_ways(stays, all_ways(stays, small), (9, 9, 1, 9))
        self.assertEqual(told[6, 0, 1], sum((6, 0, 1) in goings_of(way) for way in listed))
        self.assertEqual({way[2][0][0] for way in listed if (6, 0, 1) in goings_of(way)}, {0, 1})

    def test_against_all_least_ways_one_by_one(self):
        for stays in grounds():
            for small in SMALLS:
                ways = all_ways(stays, small)
                for prices in PRICES:
                    listed = least_ways(stays, ways, prices)
                    self.assertEqual(goings(stays, small, prices), tally(listed, goings_of))

    def test_some_counted_by_themselves(self):
        for great, stays, small in wide_cases()[-5::2]:
            for prices in SOME:
                for going, many in some_of(goings(stays, small, prices)):
                    ins = (going[1:], going[:0:-1])
                    takes = lambda node, entry, stay, deed, two: (
                        node != going[0] or (stay == going[1] and deed == "over" and two in ins)
                    )
                    self.assertEqual(least_with(stays, small, prices, takes), many)

    def test_as_many_as_the_marks_of_over(self):
        for great, stays, small in wide_cases():
            for prices in SOME:
                sums = collections.Counter()
                for going, many in goings(stays, small, prices):
                    sums[going[:2] + ("over",)] += many
                marked = {mark: many for mark, many in marks(stays, small, prices) if mark[2] == "over"}
                self.assertEqual(sums, marked)


class EntriesTest(unittest.TestCase):
    def test_examples(self):
        self.assertEqual(entries(ground("a"), "a", (0, 0, 0, 0)), (((0, 0), 1),))
        self.assertEqual(entries(TWO, ("a", "b"), (0, 2, 3, 1)), (((0, 0), 1), ((1, 1), 1), ((2, 2), 1)))
        self.assertEqual(entries(TWO, ("a", "b"), (0, 0, 0, 0)), (
            ((0, 0), 3), ((0, 2), 1), ((1, 1), 3), ((1, 2), 1), ((2, 0), 1), ((2, 1), 1), ((2, 2), 2),
        ))

    def test_the_last_node_comes_in_where_it_does_its_deed(self):
        stays = dated((("a", "b"), "c"), (0, 0, 4, 0, 9))
        self.assertEqual(entries(stays, "c", (0, 0, 0, 0)), (((0, 2), 1),))

    def test_against_all_least_ways_one_by_one(self):
        for stays in grounds():
            for small in SMALLS:
                ways = all_ways(stays, small)
                for prices in PRICES:
                    listed = least_ways(stays, ways, prices)
                    self.assertEqual(entries(stays, small, prices), tally(listed, entries_of_way))

    def test_some_counted_by_themselves(self):
        for great, stays, small in wide_cases()[-5::2]:
            for prices in SOME:
                for entry, many in some_of(entries(stays, small, prices)):
                    takes = lambda node, place, stay, deed, ins: node != entry[0] or place == entry[1]
                    self.assertEqual(least_with(stays, small, prices, takes), many)

    def test_asked_again_the_same_is_told(self):
        for stays in grounds():
            for small in SMALLS:
                before = copy.deepcopy((stays, small, PRICES))
                for tells in (marks, shared, goings, entries):
                    told = tells(stays, small, PRICES[1])
                    self.assertIs(type(told), tuple)
                    self.assertEqual(tells(stays, small, PRICES[1]), told)
                self.assertEqual((stays, small, PRICES), before)
