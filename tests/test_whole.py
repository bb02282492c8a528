"""What points 3 to 9 and 12 promise over the whole program: over some worlds, and many orders."""

import random
import unittest

from hall_samples import IDLE, all_halls, random_needs
from loaders.errors import NoClass, NotLinked
from loaders.finding import asked, classes, find, shadowed
from loaders.hall import Hall
from loaders.kinds import common, is_kind, kinds, supers, why_not
from loaders.needs import all_rings, arrows, needed, ring
from loaders.orders import ends, sticks
from loaders.runs import alone, in_turns, run
from loaders.texts import read, shown
from loaders.views import tidy, without_file
from samples import FIELDS, NAMES, full_world, needy_world, one_shelf, random_world, some_class, some_face, world_of_names

MOST = 400


def answer(call, *values):
    try:
        return call(*values)
    except (NoClass, NotLinked) as error:
        return error.__class__


def what_is_found(world):
    return (
        classes(world), [asked(world, loader) for loader in range(len(world))],
        [answer(find, world, loader, name) for loader in range(len(world)) for name in NAMES + "n"],
    )


def what_is_linked_and_needed(world):
    things = classes(world)
    one_by_one = [
        [answer(call, world, thing) for call in (why_not, supers, kinds, arrows, needed, ring)] for thing in things
    ]
    pairs = [answer(call, world, one, other) for call in (is_kind, common) for one in things for other in things]
    return (one_by_one, pairs, all_rings(world))


def random_order(chance, hands, steps):
    return [chance.randrange(hands) for step in range(steps)]


def what_steps_tell(world, needs, order, things):
    hall, told = run(world, needs, order)
    return (
        told, [(hall.told(hand), hall.is_idle(hand), hall.waits_for(hand)) for hand in range(len(needs))],
        [(thing, hall.state(thing), [hall.field(thing, name) for name in FIELDS]) for thing in things],
        hall.notes(), hall.stuck(),
    )


def what_runs_tell(world, needs):
    hall, order = in_turns(world, needs)
    return (alone(world, needs[0]), order, hall.stuck(), hall.notes())


def what_can_come(world, needs):
    return (sticks(world, needs), sorted(ends(world, needs)))


def is_small(world, needs):
    return len(all_halls(world, needs)) <= MOST


def classes_needed(world, needs):
    """All that the set-up of the needs' classes may come to need."""
    things = set()
    for some in needs:
        for loader, name in some:
            thing = answer(find, world, loader, name)
            if thing is not NoClass:
                things.update(needed(world, thing))
    return things


def classes_met(world, needs):
    """What the needs' classes may come to need, and what is looked at to link it."""
    waiting = sorted(classes_needed(world, needs))
    met = set(waiting)
    while waiting:
        loader, name = waiting.pop()
        file = [file for file in world[loader][1] if file[1] == name][0]
        for other in file[3] + (() if file[2] is None else (file[2],)):
            thing = answer(find, world, loader, other)
            if thing is not NoClass and thing not in met:
                met.add(thing)
                waiting.append(thing)
    return met


class WithoutRings(unittest.TestCase):
    def has_ring(self, world, needs):
        return any(ring(world, thing) is not None for thing in classes_needed(world, needs))

    def check_alike(self, chance, world, needs):
        self.assertFalse(self.has_ring(world, needs))
        all_needs = sum(needs, ())
        told = ends(world, (all_needs,))
        self.assertEqual(len(told), 1)
        self.assertEqual(ends(world, (all_needs[::-1],)), told)
        self.assertEqual(ends(world, needs), told)
        self.assertIsNone(sticks(world, needs))
        done = [thing for thing, state in told[0][0]]
        self.assertEqual(sorted(alone(world, all_needs)[1]), done)
        for number in range(3):
            hall = run(world, needs, random_order(chance, len(needs), 150) + in_turns(world, needs)[1])[0]
            self.assertEqual([hall.is_idle(hand) for hand in range(len(needs))], [True] * len(needs))
            for thing, state in told[0][0]:
                self.assertEqual(hall.state(thing), state)
            for (thing, name), value in told[0][1]:
                self.assertEqual(hall.field(thing, name), value)

    def test_all_orders_end_alike(self):
        chance = random.Random(60)
        count = 0
        for number in range(120):
            world = random_world(chance, number % 2 == 0)
            needs = random_needs(chance, world, 2)
            if not self.has_ring(world, needs) and is_small(world, needs):
                with self.subTest(world, needs=needs):
                    self.check_alike(chance, world, needs)
                count += 1
        self.assertGreater(count, 60)

    def test_a_ring_elsewhere_does_not_count(self):
        world = one_shelf(
            some_class("a", "b", (), (("read", "x", "b", "x"),)), some_class("b", None, (), (("put", "x", 4),)),
            some_class("c", None, (), (("need", "d"),)), some_class("d", None, (), (("need", "c"), ("need", "a"))),
        )
        self.assertEqual(all_rings(world), [(0, "c"), (0, "d")])
        self.check_alike(random.Random(61), world, (((0, "a"),), ((0, "b"), (0, "a"))))

    def test_hands_stick_only_where_a_ring_is(self):
        chance = random.Random(62)
        count = 0
        for number in range(80):
            world = needy_world(chance)
            needs = random_needs(chance, world, 2)
            if is_small(world, needs) and sticks(world, needs) is not None:
                self.assertTrue(self.has_ring(world, needs))
                count += 1
        self.assertGreater(count, 5)


class TidyWorlds(unittest.TestCase):
    def test_all_is_told_as_before(self):
        chance = random.Random(63)
        untidy = 0
        for number in range(80):
            world = random_world(chance, number % 2 == 0)
            needs = random_needs(chance, world, 2)
            order = random_order(chance, 2, 80)
            other = tidy(world)
            untidy += other != world
            with self.subTest(world, needs=needs):
                self.assertEqual(what_is_found(other), what_is_found(world))
                self.assertEqual(what_is_linked_and_needed(other), what_is_linked_and_needed(world))
                things = classes(world)
                self.assertEqual(what_steps_tell(other, needs, order, things), what_steps_tell(world, needs, order, things))
                self.assertEqual(what_runs_tell(other, needs), what_runs_tell(world, needs))
                if is_small(world, needs):
                    self.assertEqual(what_can_come(other, needs), what_can_come(world, needs))
        self.assertGreater(untidy, 20)

    def test_a_file_that_would_be_found_first_without_its_loader_above(self):
        hidden = some_class("a", None, (), (("fail", "hidden"),))
        world = ((None, (some_class("a"),)), (0, (hidden, some_class("b", "a"))))
        self.assertEqual(shadowed(world), [(1, "a")])
        self.assertEqual(tidy(world), ((None, (some_class("a"),)), (0, (some_class("b", "a"),))))
        self.assertEqual(alone(tidy(world), ((1, "b"),)), alone(world, ((1, "b"),)))


class FilesThatAreNotNeeded(unittest.TestCase):
    def check_without(self, world, needs, order, loader, name):
        other = without_file(world, loader, name)
        things = sorted(classes_met(world, needs))
        self.assertEqual(sorted(classes_met(other, needs)), things)
        self.assertEqual(what_steps_tell(other, needs, order, things), what_steps_tell(world, needs, order, things))
        self.assertEqual(what_runs_tell(other, needs), what_runs_tell(world, needs))
        if is_small(world, needs):
            self.assertEqual(what_can_come(other, needs), what_can_come(world, needs))

    def test_taken_away_they_change_nothing(self):
        chance = random.Random(64)
        count = 0
        for number in range(60):
            world = random_world(chance, number % 2 == 0)
            needs = random_needs(chance, world, 2, 0, 2)
            order = random_order(chance, 2, 60)
            met = classes_met(world, needs)
            for loader, (parent, shelf) in enumerate(world):
                for file in shelf:
                    if (loader, file[1]) not in met:
                        with self.subTest(world, needs=needs, file=(loader, file[1])):
                            self.check_without(world, needs, order, loader, file[1])
                        count += 1
        self.assertGreater(count, 100)

    def test_one_that_hides_another(self):
        world = world_of_names((None, "a b"), (0, "b c"))
        self.assertEqual(shadowed(world), [(1, "b")])
        self.check_without(world, (((1, "c"),), ((0, "a"),)), [0, 1] * 8, 0, "b")

    def test_needed_ones_change_something(self):
        world = one_shelf(some_class("a", "b", ("f",), (("need", "c"),)), some_class("b"), some_class("c"), some_face("f"))
        for name in "abcf":
            self.assertNotEqual(alone(without_file(world, 0, name), ((0, "a"),)), alone(world, ((0, "a"),)))


class WhoIsIdle(unittest.TestCase):
    def test_stays_idle(self):
        chance = random.Random(65)
        for number in range(100):
            world = needy_world(chance) if number % 2 else random_world(chance, True)
            needs = random_needs(chance, world, 3, 0, 2)
            hall = Hall(world, needs)
            heard = {}
            for hand in random_order(chance, 3, 150):
                told = hall.step(hand)
                if hand in heard:
                    self.assertEqual(told, IDLE)
                for other in range(3):
                    if other in heard:
                        self.assertIs(hall.is_idle(other), True)
                        self.assertEqual(hall.told(other), heard[other])
                        self.assertIsNone(hall.waits_for(other))
                        self.assertNotIn(other, hall.stuck())
                    elif hall.is_idle(other):
                        heard[other] = hall.told(other)
                        self.assertEqual(len(heard[other]), len(needs[other]))


class WorldsReadBack(unittest.TestCase):
    def test_all_is_told_as_before(self):
        chance = random.Random(66)
        for number in range(30):
            world = random_world(chance, True)
            needs = random_needs(chance, world, 2)
            order = random_order(chance, 2, 60)
            other = read(shown(world))
            self.assertEqual(what_is_found(other), what_is_found(world))
            self.assertEqual(what_is_linked_and_needed(other), what_is_linked_and_needed(world))
            things = classes(world)
            self.assertEqual(what_steps_tell(other, needs, order, things), what_steps_tell(world, needs, order, things))

    def test_of_each_kind(self):
        self.assertEqual(what_is_found(read(shown(full_world()))), what_is_found(full_world()))


if __name__ == "__main__":
    unittest.main()
