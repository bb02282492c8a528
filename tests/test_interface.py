"""Point 1 and the interface: all names and arguments, and which refusal is told where several fit."""

import inspect
import itertools
import unittest

from hall_samples import crossed_needs, crossed_world, view
from loaders import errors
from loaders.errors import (
    LoadError, NoClass, NoFile, NoHand, NoLoader, NoNeeds, NoOrder, NotLinked, NoText, NoWorld, TooMany,
)
from loaders.files import checked
from loaders.finding import asked, classes, find, shadowed
from loaders.hall import Hall, woken
from loaders.kinds import common, is_kind, kinds, supers, why_not
from loaders.needs import all_rings, arrows, needed, ring
from loaders.orders import ends, sticks
from loaders.runs import alone, in_turns, run
from loaders.texts import read, shown
from loaders.views import tidy, with_file, without_file
from samples import full_world, one_shelf, places, replaced, some_class, wrong_everywhere

BALL = (1, "ball")
BASE = (0, "base")
# base can be linked; ball can't: its face has faces that are not found.
FILE = some_class("new")

# For each function what may be handed in, and in each place the refusal of what is wrong there.
FUNCTIONS = (
    (checked, "world", (NoWorld,)),
    (asked, "world loader", (NoWorld, NoLoader)),
    (find, "world loader name", (NoWorld, NoLoader, NoClass)),
    (classes, "world", (NoWorld,)),
    (shadowed, "world", (NoWorld,)),
    (why_not, "world thing", (NoWorld, NoClass)),
    (supers, "world thing", (NoWorld, NoClass)),
    (kinds, "world thing", (NoWorld, NoClass)),
    (is_kind, "world one other", (NoWorld, NoClass, NoClass)),
    (common, "world one other", (NoWorld, NoClass, NoClass)),
    (arrows, "world thing", (NoWorld, NoClass)),
    (needed, "world thing", (NoWorld, NoClass)),
    (ring, "world thing", (NoWorld, NoClass)),
    (all_rings, "world", (NoWorld,)),
    (Hall, "world needs", (NoWorld, NoNeeds)),
    (alone, "world some", (NoWorld, NoNeeds)),
    (run, "world needs order", (NoWorld, NoNeeds, NoOrder)),
    (in_turns, "world needs", (NoWorld, NoNeeds)),
    (sticks, "world needs", (NoWorld, NoNeeds)),
    (ends, "world needs", (NoWorld, NoNeeds)),
    (with_file, "world loader file", (NoWorld, NoLoader, NoFile)),
    (without_file, "world loader name", (NoWorld, NoLoader, NoFile)),
    (tidy, "world", (NoWorld,)),
    (shown, "world", (NoWorld,)),
    (read, "text", (NoText,)),
)
METHODS = (
    (Hall.step, "number"), (Hall.told, "number"), (Hall.is_idle, "number"), (Hall.waits_for, "number"),
    (Hall.state, "thing"), (Hall.field, "thing name"), (Hall.notes, ""), (Hall.stuck, ""), (Hall.saved, ""),
)
REFUSALS = (NoWorld, NoLoader, NoClass, NotLinked, NoNeeds, NoHand, NoOrder, NoFile, TooMany, NoText)


def right_values():
    """Made anew each time; with these no function refuses anything."""
    return {
        "world": full_world(), "loader": 0, "name": "base", "thing": BASE, "one": BASE, "other": BASE,
        "needs": (((1, "ball"),), ((0, "base"),)), "some": ((1, "ball"),), "order": [0, 1, 1], "file": FILE, "text": "loader",
    }


class Names(unittest.TestCase):
    def test_arguments(self):
        for function, names, refusals in FUNCTIONS:
            with self.subTest(function.__name__):
                self.assertEqual(list(inspect.signature(function).parameters), names.split())
        for method, names in METHODS:
            with self.subTest(method.__name__):
                self.assertEqual(list(inspect.signature(method).parameters), ["self"] + names.split())
        self.assertEqual(list(inspect.signature(woken).parameters), ["thing"])

    def test_arguments_by_name(self):
        for function, names, refusals in FUNCTIONS:
            with self.subTest(function.__name__):
                function(**{name: right_values()[name] for name in names.split()})

    def test_each_refusal_is_of_its_own_class(self):
        for one, other in itertools.product(REFUSALS, REFUSALS):
            with self.subTest(one.__name__, other=other.__name__):
                self.assertTrue(issubclass(one, LoadError) and issubclass(one, ValueError))
                self.assertIs(issubclass(one, other), one is other)
        under = [thing for thing in vars(errors).values() if isinstance(thing, type) and thing is not LoadError]
        self.assertEqual(set(under), set(REFUSALS))


class WhichRefusal(unittest.TestCase):
    def refuses(self, refusal, function, values):
        with self.assertRaises(LoadError) as taken:
            function(*values)
        self.assertIs(taken.exception.__class__, refusal)
        self.assertIsInstance(taken.exception, ValueError)

    def test_things_of_any_kind_at_each_place(self):
        for function, names, refusals in FUNCTIONS:
            right = [right_values()[name] for name in names.split()]
            for place, refusal in enumerate(refusals):
                for number, thing in enumerate(wrong_everywhere()):
                    # A hand without needs, an order without steps.
                    if (refusal is NoNeeds and names != "world some" and thing.__class__ is tuple and thing == ((),)):
                        continue
                    if refusal is NoOrder and thing.__class__ is list and len(thing) == 0:
                        continue
                    later = len(refusals) - place - 1
                    with self.subTest(function.__name__, place=place, thing=number):
                        self.refuses(refusal, function, right[:place] + [thing] + right[place + 1:])
                        self.refuses(refusal, function, right[:place] + [thing] + [None] * later)
                        self.refuses(refusal, function, right[:place] + [thing] + [thing] * later)

    def test_none_at_each_place_and_behind(self):
        for function, names, refusals in FUNCTIONS:
            right = [right_values()[name] for name in names.split()]
            for place, refusal in enumerate(refusals):
                with self.subTest(function.__name__, place=place):
                    self.refuses(refusal, function, right[:place] + [None] * (len(refusals) - place))

    def test_a_fault_deep_in_a_world(self):
        for function, names, refusals in FUNCTIONS:
            if refusals[0] is NoWorld:
                for path in places(full_world()):
                    for thing in (True, [], "Word"):
                        with self.subTest(function.__name__, path=path, thing=thing):
                            world = replaced(full_world(), path, thing)
                            self.refuses(NoWorld, function, [world] + [None] * (len(refusals) - 1))

    def test_true_and_false(self):
        for function, names, refusals in FUNCTIONS:
            right = [right_values()[name] for name in names.split()]
            for place, name in enumerate(names.split()):
                wrong = {
                    "loader": [False], "thing": [(False, "base")], "one": [(False, "base")], "other": [(False, "base")],
                    "needs": [(((True, "ball"),),), (((1, "ball"),), ((False, "base"),))], "some": [((True, "ball"),)],
                    "order": [[True], [0, False]], "world": [replaced(full_world(), (1, 0), False)],
                    "file": [some_class("new", None, (), (("put", "x", True),))],
                }
                for thing in wrong.get(name, []):
                    with self.subTest(function.__name__, place=place, thing=thing):
                        self.refuses(refusals[place], function, right[:place] + [thing] + right[place + 1:])

    def test_not_linked(self):
        for function in (supers, kinds):
            self.refuses(NotLinked, function, [full_world(), BALL])
        for other in (BASE, BALL, None, (0, "none")):
            for function in (is_kind, common):
                with self.subTest(function.__name__, other=other):
                    self.refuses(NotLinked, function, [full_world(), BALL, other])
        self.refuses(NotLinked, common, [full_world(), BASE, BALL])
        self.assertIs(is_kind(full_world(), BASE, BALL), False)
        self.refuses(NoClass, common, [full_world(), (0, "none"), BALL])
        self.refuses(NoClass, is_kind, [full_world(), BASE, (0, "none")])

    def test_full_shelves_and_names_that_are_not_there(self):
        world = one_shelf(*(some_class(name) for name in "abcd"))
        self.refuses(NoFile, with_file, [world, 0, FILE])
        self.refuses(NoLoader, with_file, [world, 1, FILE])
        self.refuses(NoFile, without_file, [world, 0, "e"])
        self.refuses(NoLoader, without_file, [world, 1, "e"])
        self.refuses(NoClass, find, [world, 0, "e"])
        self.refuses(NoLoader, find, [world, 1, "e"])

    def test_hands_and_classes_of_a_hall(self):
        hall = Hall(crossed_world(), crossed_needs())
        hall.step(0)
        before = view(hall, crossed_world(), 2)
        for number, thing in enumerate(wrong_everywhere() + [None, 2]):
            with self.subTest(number):
                for method in (hall.step, hall.told, hall.is_idle, hall.waits_for):
                    self.refuses(NoHand, method, [thing])
                self.refuses(NoClass, hall.state, [thing])
                self.refuses(NoClass, hall.field, [thing, "x"])
                self.refuses(NoClass, hall.field, [thing, None])
        self.assertEqual(view(hall, crossed_world(), 2), before)


if __name__ == "__main__":
    unittest.main()
