import importlib
import inspect
import unittest

from cases import first_dates, woven
from things import GREATS
from treewithin.errors import NoLine, NoText, NoWay, TreeError
from treewithin.trees import leaves

ASKED = "ground small prices"
INTERFACE = {
    "trees": {
        "is_tree": "thing", "leaves": "tree", "nodes": "tree", "ahead_of": "tree", "is_great": "thing",
        "is_small": "great thing", "text_of": "tree", "plain": "tree", "alike": "one other",
    },
    "grounds": {"ground": "great"},
    "dating": {"is_dates": "great thing", "dated": "great dates"},
    "ways": {"is_way": "ground small thing", "places": "way"},
    "counting": {"counted": "ground way", "priced": "prices count"},
    "tables": {"table": ASKED, "least": ASKED},
    "leastways": {"least_way": ASKED},
    "tablelooks": {"shows_table": ASKED + " thing", "shows_least": ASKED + " way thing"},
    "numbers": {"how_many": ASKED, "way_at": ASKED + " k", "place_of": ASKED + " way"},
    "marking": {"marks": ASKED, "shared": ASKED, "goings": ASKED, "entries": ASKED},
    "crossings": {"rests": ASKED + " deed", "crossings": ASKED + " deed", "crossing_paper": ASKED + " deed"},
    "crosslooks": {"shows_crossings": ASKED + " deed rows papers"},
    "times": {"links": "great small way", "in_time": "great small way"},
    "timelooks": {"shows_ring": "great small way thing"},
    "withdates": {"with_dates": "great dates small way"},
    "several": {"together": "ground smalls prices"},
    "greats": {"great_trees": "words", "best_great": "smalls prices", "best_paper": "smalls prices"},
    "greatlooks": {"shows_best": "smalls prices cost trees paper"},
    "showing": {"show_way": "way", "show_dates": "dates"},
    "reading": {"read_tree": "text", "read_dates": "great text", "read_way": "ground small text"},
    "desk": {"Desk": "great"},
}


def function(module, name):
    return getattr(importlib.import_module("treewithin." + module), name)


def is_told_kind(thing):
    """Whether it is of tuples, whole numbers, texts, truths and None alone."""
    if type(thing) is tuple:
        return all(is_told_kind(part) for part in thing)
    return thing is None or type(thing) in (int, str, bool)


def values(great, small, dates):
    """A value for each argument, by its name."""
    stays = function("dating", "dated")(great, dates)
    prices = (0, 2, 3, 1)
    free_way = function("leastways", "least_way")(function("grounds", "ground")(great), small, prices)
    told = {
        "great": great, "tree": small, "thing": small, "one": small, "other": great, "dates": dates, "ground": stays,
        "small": small, "prices": prices, "k": 0, "deed": "over", "count": (1, 2, 3, 4), "smalls": (small[0], small[1]),
        "words": tuple(sorted(leaves(great)))[:4], "cost": 3, "trees": (great,), "paper": (), "rows": (), "papers": (),
        "way": function("leastways", "least_way")(stays, small, prices),
    }
    return told, free_way


class InterfaceTest(unittest.TestCase):
    def test_each_name_is_there_with_its_arguments(self):
        for module, names in INTERFACE.items():
            for name, arguments in names.items():
                told = inspect.signature(function(module, name)).parameters.values()
                self.assertEqual([each.name for each in told], arguments.split(), name)
                self.assertEqual({each.default for each in told}, {inspect.Parameter.empty}, name)

    def test_the_desk_says(self):
        desk = function("desk", "Desk")
        self.assertEqual(list(inspect.signature(desk.say).parameters), ["self", "line"])
        self.assertEqual(desk(great="(a,b)").say(line="small a"), "1")

    def test_each_refusal_is_made_as_told(self):
        self.assertEqual(NoText(place=7).place, 7)
        for refusal in (NoWay, NoLine):
            self.assertIsInstance(refusal("so it is"), TreeError)

    def test_all_that_is_told_is_of_few_kinds_and_nothing_is_changed(self):
        for turn, great in enumerate(GREATS):
            small = woven(leaves(great), 2 + turn % 5)
            handed, free_way = values(great, small, first_dates(great))
            before = repr(handed)
            for module, names in INTERFACE.items():
                for name, arguments in names.items():
                    if module in ("desk", "reading"):
                        continue
                    chosen = {each: handed[each] for each in arguments.split()}
                    # These ask for a way without dates.
                    if module in ("times", "timelooks", "withdates"):
                        chosen["way"] = free_way
                    if module in ("greats", "greatlooks") and len(leaves(great)) > 5 and "smalls" in chosen:
                        chosen["smalls"] = (woven(leaves(great)[:4], 5), great[0] if len(leaves(great[0])) < 5 else "a")
                    told = function(module, name)(**chosen)
                    self.assertTrue(is_told_kind(told), name)
                    self.assertEqual(function(module, name)(**chosen), told, name)
                    if name.startswith(("is_", "shows_")) or name == "alike":
                        self.assertIs(type(told), bool, name)
            self.assertEqual(repr(handed), before)
