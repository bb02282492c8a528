"""Point 9: what follows for classes, fields and hands, in whatever order hands do their steps."""

import random
import unittest

from hall_samples import (
    NEW, READY, all_halls, all_idle, crossed_needs, crossed_world, random_needs, turning_needs, turning_world, until_idle,
)
from loaders.finding import classes
from loaders.hall import Hall, woken
from loaders.needs import ring
from samples import FIELDS, one_shelf, random_world, some_class, some_face

SOUND = one_shelf(
    some_class("a", "b", ("f",), (("read", "x", "c", "x"), ("note", "low"))),
    some_class("b", None, (), (("put", "x", 4), ("need", "c"))),
    some_class("c", None, (), (("put", "x", 5), ("put", "y", 6))),
    some_face("f"),
)
FAILING = one_shelf(
    some_class("a", None, (), (("put", "x", 1), ("need", "b"), ("put", "x", 2))),
    some_class("b", None, (), (("need", "c"), ("fail", "never"))),
    some_class("c", None, (), (("put", "x", 7), ("fail", "worn"))),
    some_class("d", "none", (), (("put", "x", 3),)),
)
LACKING = (
    (None, (some_class("a", None, (), (("put", "y", 8), ("need", "b"))), some_class("c", "a"))),
    (0, (some_class("b", None, (), (("read", "x", "a", "y"),)), some_class("d", None, (), (("read", "y", "e", "x"),)))),
    (1, (some_class("e", "c"),)),
)
WITHOUT_RINGS = (
    (SOUND, (((0, "a"),), ((0, "b"), (0, "c")))),
    (SOUND, (((0, "c"),), ((0, "b"),), ((0, "b"), (0, "f")))),
    (FAILING, (((0, "a"), (0, "d")), ((0, "b"), (0, "c")))),
    (FAILING, (((0, "c"),), ((0, "d"),), ((0, "a"), (0, "d")))),
    (LACKING, (((1, "d"), (2, "e")), ((1, "b"), (0, "b")))),
)
WITH_RINGS = ((crossed_world(), crossed_needs()), (turning_world(), turning_needs()))


def states_of(hall, world):
    return {thing: hall.state(thing) for thing in classes(world)}


def end_of(hall, world):
    return [(thing, hall.state(thing), [hall.field(thing, name) for name in FIELDS]) for thing in classes(world)]


def walk_all_orders(world, needs, look):
    """Looks at each step from each hall to which some order leads."""
    halls = all_halls(world, needs)
    for saved in halls:
        for hand in range(len(needs)):
            hall = woken(saved)
            before = states_of(hall, world)
            told = hall.step(hand)
            look(hall, hand, told, before, states_of(hall, world))
    return len(halls)


class EachOnce(unittest.TestCase):
    def only_goes_forth(self, hand, told, before, after):
        for thing in before:
            if before[thing] == after[thing]:
                self.assertNotEqual(told, ("begin", thing))
            elif before[thing] == NEW:
                self.assertIn((told, after[thing][0]), ((("begin", thing), "work"), (("failed", thing), "failed")))
                self.assertTrue(after[thing][0] == "failed" or after[thing] == ("work", hand))
            else:
                self.assertEqual(before[thing], ("work", hand))
                self.assertIn((told, after[thing][0]), ((("ready", thing), "ready"), (("failed", thing), "failed")))

    def test_all_orders(self):
        for world, needs in WITHOUT_RINGS + WITH_RINGS:
            with self.subTest(world, needs=needs):
                count = walk_all_orders(
                    world, needs,
                    lambda hall, hand, told, before, after: self.only_goes_forth(hand, told, before, after),
                )
                self.assertGreater(count, 50)

    def test_many_worlds_and_orders(self):
        chance = random.Random(11)
        for number in range(150):
            world = random_world(chance, number % 3 < 2)
            hall = Hall(world, random_needs(chance, world, 3, 3, 3))
            begun = []
            for step in range(150):
                hand = chance.randrange(3)
                before = states_of(hall, world)
                told = hall.step(hand)
                self.only_goes_forth(hand, told, before, states_of(hall, world))
                if told[0] == "begin":
                    self.assertNotIn(told[1], begun)
                    begun.append(told[1])


class WithoutRings(unittest.TestCase):
    def test_all_orders(self):
        for world, needs in WITHOUT_RINGS:
            ends = []

            def look(hall, hand, told, before, after):
                self.assertEqual(hall.stuck(), [])
                if all_idle(hall, len(needs)) and end_of(hall, world) not in ends:
                    ends.append(end_of(hall, world))

            with self.subTest(world, needs=needs):
                walk_all_orders(world, needs, look)
                alone = Hall(world, (sum(needs, ()),))
                until_idle(alone, 0)
                self.assertEqual(ends, [end_of(alone, world)])

    def test_what_the_ends_are(self):
        fail = ("failed", ("fail", (0, "c"), "worn"))
        for place, end in (
            (0, [((0, "a"), READY, [5, 0]), ((0, "b"), READY, [4, 0]), ((0, "c"), READY, [5, 6]), ((0, "f"), NEW, [0, 0])]),
            (2, [
                ((0, "a"), fail, [1, 0]), ((0, "b"), fail, [0, 0]), ((0, "c"), fail, [7, 0]),
                ((0, "d"), ("failed", ("lacks", (0, "d"), "none")), [0, 0]),
            ]),
        ):
            world, needs = WITHOUT_RINGS[place]
            hall = Hall(world, needs)
            while not all_idle(hall, len(needs)):
                for hand in range(len(needs)):
                    hall.step(hand)
            self.assertEqual(end_of(hall, world), end)

    def test_many_worlds_and_orders(self):
        chance = random.Random(12)
        for number in range(150):
            world = random_world(chance, False)
            needs = random_needs(chance, world, 2)
            for thing in classes(world):
                self.assertIsNone(ring(world, thing))
            alone = Hall(world, (needs[1] + needs[0],))
            until_idle(alone, 0)
            for order in range(6):
                hall = Hall(world, needs)
                while not all_idle(hall, 2):
                    hall.step(chance.choice((0, 1) if order % 2 else (0, 0, 0, 0, 0, 1)))
                    self.assertEqual(hall.stuck(), [])
                with self.subTest(world, needs=needs):
                    self.assertEqual(end_of(hall, world), end_of(alone, world))


class WithRings(unittest.TestCase):
    def test_some_orders_stick_and_some_end(self):
        for world, needs in WITH_RINGS:
            stuck = []
            ended = []

            def look(hall, hand, told, before, after):
                if hall.stuck() not in stuck:
                    stuck.append(hall.stuck())
                if all_idle(hall, len(needs)) and hall.stuck() == [] and end_of(hall, world) not in ended:
                    ended.append(end_of(hall, world))

            with self.subTest(world):
                walk_all_orders(world, needs, look)
                self.assertIn(list(range(len(needs))), stuck)
                self.assertTrue(ended)


if __name__ == "__main__":
    unittest.main()
