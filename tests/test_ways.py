import copy
import unittest

from listing import all_ways, parts
from things import GREATS, Equal, Grim, nested, odd_things
from treewithin.dating import dated
from treewithin.grounds import ground
from treewithin.ways import is_way, places

TWO = ground(("a", "b"))
THREE = ground((("a", "b"), "c"))
DATED = dated((("a", "b"), "c"), (0, 0, 4, 0, 9))
GROUNDS = (
    ground("a"), TWO, THREE, DATED, dated(("a", "b"), (0, 0, 99)), ground((("a", "b"), ("c", "d"))),
    dated((("a", "b"), ("c", "d")), (0, 0, 7, 0, 0, 2, 9)),
)
SMALLS = ("a", "b", ("a", "b"), ("a", "a"), (("a", "b"), "a"), ("b", ("a", "b")))


def leaf(*path):
    return (path, "found")


def replaced(thing, change):
    """All things that come of changing one part of a nested tuple, itself too."""
    told = list(change(thing))
    if isinstance(thing, tuple):
        for place, part in enumerate(thing):
            told += [thing[:place] + (other,) + thing[place + 1:] for other in replaced(part, change)]
    return told


def changes(part):
    """What may stand in the place of a part of a way."""
    if isinstance(part, int):
        return [part - 1, part + 1, -1, 100, bool(part), float(part), None, str(part)]
    if isinstance(part, str):
        return ["found", "split", "doubled", "over", "lost", "", "Over", None, 0, (part,), Equal(), Grim()]
    told = [(), [], list(part), part[:-1], part[1:], part + part[-1:], part + (0,), part[::-1], None, Grim(), Equal()]
    if len(part) == 4:
        told += [part[:2], part[2], part[3], part[:2] + (part[3], part[2])]
    return told


class IsWayTest(unittest.TestCase):
    def test_found(self):
        self.assertIs(is_way(TWO, "a", leaf(0)), True)
        self.assertIs(is_way(TWO, "a", leaf(1)), False)
        self.assertIs(is_way(TWO, "a", leaf(2)), False)
        self.assertIs(is_way(TWO, "b", leaf(1)), True)
        self.assertIs(is_way(TWO, "c", leaf(1)), False)

    def test_the_last_nodes_path_is_one_stay_alone(self):
        self.assertIs(is_way(TWO, "a", leaf(2, 0)), False)
        self.assertIs(is_way(DATED, "c", leaf(2)), True)
        self.assertIs(is_way(DATED, "c", leaf(4, 2)), False)
        self.assertIs(is_way(THREE, ("a", "b"), ((4, 2), "split", leaf(0), leaf(1))), False)
        self.assertIs(is_way(THREE, ("a", "b"), ((2,), "split", leaf(0), leaf(1))), True)

    def test_doubled(self):
        self.assertIs(is_way(TWO, ("a", "b"), ((2,), "doubled", leaf(2, 0), leaf(2, 1))), True)
        self.assertIs(is_way(TWO, ("a", "a"), ((0,), "doubled", leaf(0), leaf(0))), True)
        self.assertIs(is_way(TWO, ("a", "b"), ((2,), "doubled", leaf(0), leaf(1))), False)
        self.assertIs(is_way(TWO, ("a", "b"), ((2,), "doubled", leaf(2, 0), leaf(1))), False)
        self.assertIs(is_way(TWO, ("a", "b"), ((2,), "doubled", leaf(0), leaf(2, 1))), False)

    def test_split_either_way_about(self):
        self.assertIs(is_way(TWO, ("a", "b"), ((2,), "split", leaf(0), leaf(1))), True)
        self.assertIs(is_way(TWO, ("b", "a"), ((2,), "split", leaf(1), leaf(0))), True)
        self.assertIs(is_way(TWO, ("a", "a"), ((2,), "split", leaf(0), leaf(0))), False)
        self.assertIs(is_way(TWO, ("a", "b"), ((2,), "split", leaf(2, 0), leaf(1))), False)
        self.assertIs(is_way(TWO, ("a", "b"), ((2,), "split", leaf(0), leaf(2, 1))), False)

    def test_no_split_where_a_house_goes_on(self):
        self.assertIs(is_way(DATED, ("c", "c"), ((4,), "split", leaf(2), leaf(2))), False)
        self.assertIs(is_way(DATED, ("c", "c"), ((4,), "doubled", leaf(4, 2), leaf(4, 2))), True)

    def test_over_by_either_of_the_two(self):
        self.assertIs(is_way(TWO, ("a", "b"), ((0,), "over", leaf(0), leaf(1))), True)
        self.assertIs(is_way(TWO, ("a", "b"), ((1,), "over", leaf(0), leaf(1))), True)
        self.assertIs(is_way(TWO, ("a", "a"), ((0,), "over", leaf(0), leaf(0))), False)
        self.assertIs(is_way(TWO, ("a", "b"), ((2,), "over", leaf(2, 0), leaf(1))), False)
        self.assertIs(is_way(THREE, ("c", "a"), ((3,), "over", leaf(3), leaf(2, 0))), True)
        self.assertIs(is_way(THREE, ("c", "a"), ((2,), "over", leaf(3), leaf(2, 0))), True)
        self.assertIs(is_way(THREE, ("b", "a"), ((3,), "over", leaf(1), leaf(2, 0))), False)

    def test_none_goes_over_to_another_time(self):
        self.assertIs(is_way(DATED, ("c", "a"), ((4,), "over", leaf(4, 2), leaf(3, 0))), True)
        self.assertIs(is_way(DATED, ("c", "a"), ((2,), "over", leaf(2), leaf(3, 0))), False)
        self.assertIs(is_way(DATED, ("c", "a"), ((4,), "over", leaf(4, 2), leaf(0))), False)

    def test_longer_paths(self):
        self.assertIs(is_way(THREE, ("a", "c"), ((4,), "split", leaf(2, 0), leaf(3))), True)
        self.assertIs(is_way(THREE, ("a", "c"), ((4,), "doubled", leaf(4, 2, 0), leaf(4, 3))), True)
        self.assertIs(is_way(THREE, ("a", "c"), ((4,), "doubled", leaf(4, 0), leaf(4, 3))), False)
        self.assertIs(is_way(THREE, ("a", "c"), ((4,), "doubled", leaf(4, 2, 2, 0), leaf(4, 3))), False)
        self.assertIs(is_way(THREE, ("a", "c"), ((4,), "doubled", leaf(4, 2, 1), leaf(4, 3))), False)

    def test_all_ways_that_there_are(self):
        for stays in GROUNDS:
            for small in SMALLS + (((("a", "b"), "b"), "a"),):
                for way in all_ways(stays, small):
                    self.assertIs(is_way(stays, small, way), True)

    def test_just_those(self):
        for stays in GROUNDS:
            for small in SMALLS:
                ways = all_ways(stays, small)
                # By their texts, for True equals 1, and some things equal everything.
                known = {repr(way) for way in ways}
                for way in ways[:8] + ways[-8:]:
                    for thing in replaced(way, changes):
                        self.assertIs(is_way(stays, small, thing), repr(thing) in known, thing)

    def test_of_another_small_tree(self):
        for stays in GROUNDS:
            known = {small: {repr(way) for way in all_ways(stays, small)} for small in SMALLS}
            for small in SMALLS:
                for other in SMALLS:
                    for way in all_ways(stays, small)[:20]:
                        self.assertIs(is_way(stays, other, way), repr(way) in known[other])

    def test_stays_that_are_none(self):
        for stay in (-3, -1, 3, 10 ** 30, True, False, 0.0, "0", None, (0,), [0], Equal(), Grim()):
            self.assertIs(is_way(TWO, "a", ((stay,), "found")), False)
            self.assertIs(is_way(TWO, ("a", "b"), ((2,), "doubled", ((2, stay), "found"), leaf(2, 1))), False)

    def test_of_anything(self):
        for stays in GROUNDS:
            for small in SMALLS:
                for thing in odd_things() + list(SMALLS) + [stays, ((0,),), ((0,), "found", ()), [(0,), "found"], ([0], "found")]:
                    self.assertIs(is_way(stays, small, thing), False)

    def test_nested_deep(self):
        for turn in range(60):
            deep = nested(leaf(0), turn + 1, lambda way: ((0,), "doubled", way, leaf(0)))
            self.assertIs(is_way(TWO, ("a", "a"), deep), turn == 0)
        deep = nested(leaf(0), 60, lambda way: (way, "found"))
        self.assertIs(is_way(TWO, "a", deep), False)

    def test_many_leaves(self):
        small = nested("a", 9, lambda tree: (tree, "b"))
        way = nested(leaf(2, 0), 9, lambda told: ((2,), "doubled", told, leaf(2, 1)))
        self.assertIs(is_way(TWO, small, way), True)
        self.assertIs(is_way(TWO, (small, "b"), way), False)
        self.assertIs(is_way(TWO, small[0], way), False)

    def test_of_no_small_tree_there_is_no_way(self):
        for small in odd_things():
            self.assertIs(is_way(TWO, small, leaf(0)), False)

    def test_on_all_great_trees(self):
        for great in GREATS:
            stays = ground(great)
            words = [part for part in parts(great) if isinstance(part, str)]
            for stay, (name, layer, under, beside) in enumerate(stays):
                self.assertIs(is_way(stays, words[0], leaf(stay)), name == words[0])


class PlacesTest(unittest.TestCase):
    def test_of_a_leaf(self):
        self.assertEqual(places(leaf(0)), ((0, "found"),))
        self.assertEqual(places(leaf(4, 2, 0)), ((0, "found"),))

    def test_as_nodes_are_numbered(self):
        way = ((4,), "over", ((4, 2), "split", leaf(0), leaf(1)), ((3,), "doubled", leaf(3), leaf(3, 5)))
        self.assertEqual(places(way), (
            (0, "found"), (1, "found"), (2, "split"), (3, "found"), (5, "found"), (3, "doubled"), (4, "over"),
        ))

    def test_of_each_nodes_way(self):
        for stays in GROUNDS:
            for small in SMALLS:
                for way in all_ways(stays, small):
                    told = places(way)
                    self.assertIs(type(told), tuple)
                    self.assertEqual(len(told), len(parts(small)))
                    self.assertEqual(told[-1], (way[0][0], way[1]))
                    if len(way) == 4:
                        self.assertEqual(told, places(way[2]) + places(way[3]) + ((way[0][-1], way[1]),))

    def test_nested_deep(self):
        way = nested(leaf(2, 0), 50, lambda told: ((2,), "doubled", told, leaf(2, 1)))
        self.assertEqual(places(way), ((0, "found"),) + ((1, "found"), (2, "doubled")) * 50)


class UnchangedTest(unittest.TestCase):
    def test_asked_again_the_same_is_told(self):
        for stays in GROUNDS:
            for small in SMALLS:
                for way in all_ways(stays, small)[:10]:
                    before = copy.deepcopy((stays, small, way))
                    self.assertIs(is_way(stays, small, way), is_way(stays, small, way))
                    self.assertEqual(places(way), places(way))
                    self.assertEqual((stays, small, way), before)

    def test_what_is_no_way_is_left_as_it_was(self):
        thing = [[2], "doubled", [[2, 0], "found"], [[2, 1], "found"]]
        before = copy.deepcopy(thing)
        self.assertIs(is_way(TWO, ("a", "b"), thing), False)
        self.assertIs(is_way(TWO, ("a", "b"), ((2,), "doubled", thing, thing)), False)
        self.assertEqual(thing, before)
