import unittest

from things import GREATS
from treewithin.grounds import ground
from treewithin.trees import nodes


def under_all(houses, house):
    """The numbers of all houses under a house."""
    if isinstance(houses[house], str):
        return set()
    return {below for half in houses[house] for below in {half} | under_all(houses, half)}


class GroundTest(unittest.TestCase):
    def test_of_one_leaf(self):
        self.assertEqual(ground("a"), (("a", 0, (), ()),))

    def test_of_two(self):
        self.assertEqual(ground(("b", "a")), (("b", 0, (), (1,)), ("a", 0, (), (0,)), (2, 0, (0, 1), ())))

    def test_of_three(self):
        self.assertEqual(ground((("a", "b"), "c")), (
            ("a", 0, (), (1, 3)), ("b", 0, (), (0, 3)), (2, 0, (0, 1), (3,)), ("c", 0, (), (0, 1, 2)), (4, 0, (2, 3), ()),
        ))

    def test_the_ones_stand_first_under(self):
        self.assertEqual([stay[2] for stay in ground(("c", ("b", "a")))], [(), (), (), (1, 2), (0, 3)])

    def test_beside_however_far(self):
        told = ground((("a", "b"), ("c", "d")))
        self.assertEqual([stay[3] for stay in told], [(1, 3, 4, 5), (0, 3, 4, 5), (3, 4, 5), (0, 1, 2, 4), (0, 1, 2, 3), (0, 1, 2), ()])

    def test_by_the_words_of_the_document(self):
        for great in GREATS:
            houses = nodes(great)
            told = ground(great)
            self.assertEqual(len(told), len(houses))
            for house, stay in enumerate(told):
                leaf = isinstance(houses[house], str)
                near = {house} | under_all(houses, house) | {k for k in range(len(houses)) if house in under_all(houses, k)}
                self.assertEqual(stay, (
                    houses[house] if leaf else house, 0, () if leaf else houses[house],
                    tuple(sorted(set(range(len(houses))) - near)),
                ))

    def test_kinds(self):
        for great in GREATS:
            told = ground(great)
            self.assertIs(type(told), tuple)
            for name, layer, under, beside in told:
                self.assertIn(type(name), (str, int))
                self.assertIs(type(layer), int)
                self.assertEqual((type(under), type(beside)), (tuple, tuple))

    def test_asked_again_the_same_is_told(self):
        for great in GREATS:
            houses = nodes(great)
            self.assertEqual(ground(great), ground(great))
            self.assertEqual(nodes(great), houses)
