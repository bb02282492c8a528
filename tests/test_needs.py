import copy
import random
import unittest

from loaders.errors import NoClass, NoWorld
from loaders.finding import classes
from loaders.kinds import why_not
from loaders.needs import all_rings, arrows, needed, ring
from samples import (
    NO_WORLDS, check_new_lists, full_world, no_classes, one_shelf, places, random_world, replaced, some_class,
    some_face, world_of_names, wrong_everywhere,
)


def needing(name, *names):
    return some_class(name, None, (), tuple(("need", other) for other in names))


def some_world():
    """a leads to b and c, b to c; d and e are a ring, to which f leads; g can't be linked."""
    return (
        (None, (needing("a", "b", "c"), needing("b", "c"), needing("c"), needing("d", "e"))),
        (None, (needing("d", "e"), needing("e", "c", "d"), needing("f", "d"), some_class("g", "g"))),
        (0, (needing("a"), needing("h", "h"))),
    )


class Arrows(unittest.TestCase):
    def test_none(self):
        self.assertEqual(arrows(one_shelf(some_class("a")), (0, "a")), [])
        self.assertEqual(arrows(one_shelf(some_face("a")), (0, "a")), [])

    def test_rows_that_need_nothing(self):
        rows = (("put", "b", 1), ("note", "b"), ("fail", "b"))
        self.assertEqual(arrows(one_shelf(some_class("a", None, (), rows), some_class("b")), (0, "a")), [])

    def test_above_ahead_of_rows_and_rows_in_their_order(self):
        rows = (("need", "d"), ("put", "x", 1), ("read", "b", "c", "d"))
        world = one_shelf(some_class("a", "b", (), rows), some_class("b"), some_class("c"), some_class("d"))
        self.assertEqual(arrows(world, (0, "a")), [(0, "b"), (0, "d"), (0, "c")])

    def test_not_rising(self):
        world = one_shelf(needing("a", "d", "b", "c"), needing("b"), needing("c"), needing("d"))
        self.assertEqual(arrows(world, (0, "a")), [(0, "d"), (0, "b"), (0, "c")])

    def test_a_read_leads_to_the_class_and_not_to_fields(self):
        world = one_shelf(
            some_class("a", None, (), (("read", "b", "c", "d"),)), some_class("b"), some_class("c"), some_class("d"),
        )
        self.assertEqual(arrows(world, (0, "a")), [(0, "c")])

    def test_each_once(self):
        rows = (("need", "c"), ("need", "b"), ("read", "x", "c", "y"), ("need", "c"), ("read", "x", "b", "y"))
        world = one_shelf(some_class("a", "b", (), rows), some_class("b"), some_class("c"))
        self.assertEqual(arrows(world, (0, "a")), [(0, "b"), (0, "c")])

    def test_names_that_are_not_found(self):
        rows = (("need", "no"), ("need", "b"), ("read", "x", "nor", "y"), ("need", "below"))
        world = ((None, (some_class("a", None, (), rows), some_class("b"))), (0, (some_class("below"),)))
        self.assertEqual(arrows(world, (0, "a")), [(0, "b")])

    def test_found_by_the_loader_that_has_the_file(self):
        world = world_of_names((None, "b"), (None, "b c")) + (
            (1, (needing("a", "b", "c", "d"), needing("d"), needing("b"))), (2, (needing("e", "b", "d"),)),
        )
        self.assertEqual(arrows(world, (2, "a")), [(1, "b"), (1, "c"), (2, "d")])
        self.assertEqual(arrows(world, (3, "e")), [(1, "b"), (2, "d")])

    def test_faces_names_lead_nowhere(self):
        world = one_shelf(some_class("a", "b", ("f", "g")), some_class("b"), some_face("f", ("g",)), some_face("g"))
        self.assertEqual(arrows(world, (0, "a")), [(0, "b")])
        self.assertEqual(arrows(world, (0, "f")), [])

    def test_rows_of_faces_and_rows_that_need_faces(self):
        world = one_shelf(some_face("f", (), (("need", "a"), ("need", "g"))), some_face("g"), needing("a", "f"))
        self.assertEqual(arrows(world, (0, "f")), [(0, "a"), (0, "g")])
        self.assertEqual(arrows(world, (0, "a")), [(0, "f")])

    def test_none_from_what_cannot_be_linked(self):
        rows = (("need", "b"), ("read", "x", "b", "y"))
        for above, faces in (("no", ()), ("f", ()), ("a", ()), ("b", ("no",)), (None, ("b",)), ("c", ())):
            world = one_shelf(some_class("a", above, faces, rows), some_class("b"), some_face("f"), some_class("c", "c"))
            with self.subTest(above, faces=faces):
                self.assertIsNotNone(why_not(world, (0, "a")))
                self.assertEqual(arrows(world, (0, "a")), [])

    def test_to_what_cannot_be_linked(self):
        world = one_shelf(needing("a", "b"), some_class("b", "no"))
        self.assertEqual(arrows(world, (0, "a")), [(0, "b")])

    def test_to_itself(self):
        self.assertEqual(arrows(one_shelf(needing("a", "a")), (0, "a")), [(0, "a")])
        world = one_shelf(some_class("a", None, (), (("read", "x", "a", "x"),)))
        self.assertEqual(arrows(world, (0, "a")), [(0, "a")])


class Needed(unittest.TestCase):
    def test_itself_and_all_again_and_again(self):
        for thing, told in (
            ((0, "c"), [(0, "c")]),
            ((0, "b"), [(0, "b"), (0, "c")]),
            ((0, "a"), [(0, "a"), (0, "b"), (0, "c")]),
            ((0, "d"), [(0, "d")]),
            ((1, "d"), [(1, "d"), (1, "e")]),
            ((1, "e"), [(1, "d"), (1, "e")]),
            ((1, "f"), [(1, "d"), (1, "e"), (1, "f")]),
            ((1, "g"), [(1, "g")]),
            ((2, "h"), [(2, "h")]),
        ):
            with self.subTest(thing):
                self.assertEqual(needed(some_world(), thing), told)

    def test_above_and_read(self):
        world = one_shelf(
            some_class("d", "c"), some_class("c", None, (), (("read", "x", "b", "y"),)), needing("b", "a"), needing("a"),
        )
        self.assertEqual(needed(world, (0, "d")), [(0, "a"), (0, "b"), (0, "c"), (0, "d")])

    def test_no_further_than_what_cannot_be_linked(self):
        world = one_shelf(needing("a", "b"), some_class("b", "no", (), (("need", "c"),)), needing("c"))
        self.assertEqual(needed(world, (0, "a")), [(0, "a"), (0, "b")])


class Rings(unittest.TestCase):
    def is_ring_in(self, world, thing, told):
        self.assertIsInstance(told, list)
        self.assertGreaterEqual(len(told), 2)
        self.assertEqual(told[0], told[-1])
        for one, other in zip(told, told[1:]):
            self.assertIn(other, arrows(world, one))
        self.assertLessEqual(set(told), set(needed(world, thing)))

    def test_of_one(self):
        self.assertEqual(ring(one_shelf(needing("a", "a")), (0, "a")), [(0, "a"), (0, "a")])
        self.assertEqual(ring(some_world(), (2, "h")), [(2, "h"), (2, "h")])
        world = one_shelf(some_class("a", None, (), (("read", "x", "a", "x"),)))
        self.assertEqual(ring(world, (0, "a")), [(0, "a"), (0, "a")])

    def test_of_two(self):
        for name in "def":
            with self.subTest(name):
                told = ring(some_world(), (1, name))
                self.is_ring_in(some_world(), (1, name), told)
                self.assertEqual(set(told), {(1, "d"), (1, "e")})

    def test_of_three_and_four(self):
        for names in ("abc", "acb", "abcd", "dacb"):
            world = one_shelf(*(needing(name, names[(place + 1) % len(names)]) for place, name in enumerate(names)))
            for name in names:
                with self.subTest(names, name=name):
                    told = ring(world, (0, name))
                    self.is_ring_in(world, (0, name), told)
                    self.assertEqual(sorted(told[1:]), [(0, name) for name in sorted(names)])
                    self.assertEqual(all_rings(world), [(0, name) for name in sorted(names)])

    def test_through_the_class_above(self):
        world = one_shelf(some_class("a", "b"), needing("b", "a"), needing("c", "a"))
        for name in "abc":
            with self.subTest(name):
                told = ring(world, (0, name))
                self.is_ring_in(world, (0, name), told)
                self.assertEqual(set(told), {(0, "a"), (0, "b")})
        self.assertEqual(all_rings(world), [(0, "a"), (0, "b")])

    def test_none(self):
        for thing in ((0, "a"), (0, "b"), (0, "c"), (0, "d"), (1, "g")):
            with self.subTest(thing):
                self.assertIsNone(ring(some_world(), thing))

    def test_no_ring_by_two_ways_to_one(self):
        world = one_shelf(needing("a", "b", "c"), needing("b", "d"), needing("c", "d"), needing("d"))
        self.assertIsNone(ring(world, (0, "a")))
        self.assertEqual(all_rings(world), [])

    def test_no_ring_through_faces_names(self):
        world = one_shelf(some_class("a", None, ("f",)), some_face("f", (), (("need", "a"),)))
        self.assertIsNone(ring(world, (0, "a")))
        self.assertIsNone(ring(world, (0, "f")))
        self.assertEqual(all_rings(world), [])

    def test_no_ring_through_what_cannot_be_linked(self):
        world = one_shelf(needing("a", "b"), some_class("b", "no", (), (("need", "a"), ("need", "b"))))
        self.assertIsNone(ring(world, (0, "a")))
        self.assertIsNone(ring(world, (0, "b")))
        self.assertEqual(all_rings(world), [])

    def test_all_rings(self):
        self.assertEqual(all_rings(some_world()), [(1, "d"), (1, "e"), (2, "h")])
        self.assertEqual(all_rings(((None, ()),)), [])
        world = one_shelf(needing("d", "c"), needing("c", "b"), needing("b", "c"), needing("a", "a", "b"))
        self.assertEqual(all_rings(world), [(0, "a"), (0, "b"), (0, "c")])

    def test_many_worlds(self):
        chance = random.Random(6)
        with_ring = 0
        for number in range(300):
            world = random_world(chance, number % 3 < 2)
            things = classes(world)
            reach = {thing: set(arrows(world, thing)) for thing in things}
            for middle in things:
                for thing in things:
                    if middle in reach[thing]:
                        reach[thing] |= reach[middle]
            in_rings = [thing for thing in things if thing in reach[thing]]
            with self.subTest(world):
                self.assertEqual(all_rings(world), in_rings)
                for thing in things:
                    self.assertEqual(needed(world, thing), sorted(reach[thing] | {thing}))
                    told = ring(world, thing)
                    if set(needed(world, thing)) & set(in_rings):
                        self.is_ring_in(world, thing, told)
                        with_ring += 1
                    else:
                        self.assertIsNone(told)
        self.assertGreater(with_ring, 50)


ALONE = (arrows, needed, ring)


class Refused(unittest.TestCase):
    def test_no_world(self):
        for world in NO_WORLDS + (((None, ()), (1, ())), True):
            with self.subTest(world):
                for told in ALONE:
                    with self.assertRaises(NoWorld):
                        told(world, (0, "a"))
                with self.assertRaises(NoWorld):
                    all_rings(world)

    def test_no_world_for_a_fault_in_any_place(self):
        for path in places(full_world()):
            world = replaced(full_world(), path, True)
            with self.subTest(path):
                for told in ALONE:
                    with self.assertRaises(NoWorld):
                        told(world, (0, "base"))
                with self.assertRaises(NoWorld):
                    all_rings(world)

    def test_no_world_for_things_of_any_kind_and_ahead_of_no_class(self):
        for number, world in enumerate(wrong_everywhere()):
            with self.subTest(number):
                with self.assertRaises(NoWorld):
                    all_rings(world)
                for thing in wrong_everywhere():
                    for told in ALONE:
                        with self.assertRaises(NoWorld):
                            told(world, thing)

    def test_no_class_for_things_of_any_kind(self):
        for number, thing in enumerate(no_classes(some_world(), (0, "a")) + no_classes(some_world(), (1, "d"))):
            with self.subTest(number):
                for told in ALONE:
                    with self.assertRaises(NoClass):
                        told(some_world(), thing)

    def test_no_class_for_files_that_are_never_found(self):
        for told in ALONE:
            with self.assertRaises(NoClass):
                told(some_world(), (2, "a"))


class NothingChangedOrKept(unittest.TestCase):
    def test_worlds_are_as_before(self):
        world = some_world()
        before = copy.deepcopy(world)
        all_rings(world)
        for thing in classes(world):
            for told in ALONE:
                told(world, thing)
        self.assertEqual(world, before)

    def test_told_lists_are_new_ones(self):
        world = some_world()
        for told in (
            lambda: arrows(world, (1, "e")), lambda: needed(world, (1, "e")), lambda: ring(world, (1, "e")),
            lambda: all_rings(world),
        ):
            check_new_lists(self, told)

    def test_equal_things_give_equal_answers(self):
        for thing in classes(some_world()):
            for told in ALONE:
                self.assertEqual(told(some_world(), thing), told(some_world(), thing))
        self.assertEqual(all_rings(some_world()), all_rings(some_world()))


if __name__ == "__main__":
    unittest.main()
