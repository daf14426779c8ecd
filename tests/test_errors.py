import unittest

from treewithin import errors
from treewithin.errors import NoLine, NoText, NoWay, TreeError


class ErrorsTest(unittest.TestCase):
    def test_tree_error_stands_under_value_error(self):
        self.assertEqual(TreeError.__bases__, (ValueError,))

    def test_refusals_stand_straight_under_tree_error(self):
        for refusal in (NoWay, NoLine, NoText):
            self.assertEqual(refusal.__bases__, (TreeError,))

    def test_there_are_no_others(self):
        classes = [name for name, value in vars(errors).items() if isinstance(value, type)]
        self.assertEqual(sorted(classes), ["NoLine", "NoText", "NoWay", "TreeError"])

    def test_made_with_a_text(self):
        for refusal in (TreeError, NoWay, NoLine):
            self.assertEqual(str(refusal("so it is")), "so it is")

    def test_no_text_has_its_place(self):
        for place in (0, 7, 2000):
            self.assertEqual(NoText(place).place, place)
            self.assertEqual(NoText(place=place).place, place)

    def test_places_are_each_objects_own(self):
        one = NoText(1)
        other = NoText(2)
        self.assertEqual((one.place, other.place), (1, 2))

    def test_one_refusal_is_not_taken_for_another(self):
        for refusal, others in ((NoText(0), (NoWay, NoLine)), (NoWay("x"), (NoText, NoLine)), (NoLine("x"), (NoText, NoWay))):
            self.assertNotIsInstance(refusal, others)
            with self.assertRaises(TreeError):
                raise refusal
