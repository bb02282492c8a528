import copy
import unittest

from loaders.errors import NoClass, NoLoader, NoWorld
from loaders.finding import asked, classes, find, shadowed
from samples import (
    NO_WORLDS, check_new_lists, full_world, places, replaced, some_class, some_face, world_of_names,
    wrong_everywhere,
)


def line_world():
    return world_of_names((None, "top all"), (0, "mid all"), (1, "low mid"), (2, "own all low"))


def tree_world():
    return world_of_names((None, "a b"), (0, "c a"), (0, "c d"), (None, "a c"))


class Asked(unittest.TestCase):
    def test_topmost_first(self):
        for loader, line in ((0, [0]), (1, [0, 1]), (2, [0, 1, 2]), (3, [0, 1, 2, 3])):
            with self.subTest(loader):
                self.assertEqual(asked(line_world(), loader), line)

    def test_only_those_above(self):
        for loader, line in ((0, [0]), (1, [0, 1]), (2, [0, 2]), (3, [3])):
            with self.subTest(loader):
                self.assertEqual(asked(tree_world(), loader), line)

    def test_parents_that_are_skipped(self):
        self.assertEqual(asked(((None, ()), (None, ()), (0, ()), (2, ())), 3), [0, 2, 3])
        self.assertEqual(asked(((None, ()), (None, ()), (1, ()), (1, ())), 3), [1, 3])

    def test_told_is_a_list(self):
        self.assertIsInstance(asked(line_world(), 0), list)

    def test_one_loader(self):
        self.assertEqual(asked(((None, ()),), 0), [0])


class Find(unittest.TestCase):
    def test_parent_has_it(self):
        self.assertEqual(find(line_world(), 1, "top"), (0, "top"))
        self.assertEqual(find(line_world(), 2, "mid"), (1, "mid"))

    def test_parents_parent_has_it(self):
        self.assertEqual(find(line_world(), 2, "top"), (0, "top"))
        self.assertEqual(find(line_world(), 3, "top"), (0, "top"))
        self.assertEqual(find(line_world(), 3, "mid"), (1, "mid"))

    def test_own_shelf_has_it(self):
        self.assertEqual(find(line_world(), 0, "top"), (0, "top"))
        self.assertEqual(find(line_world(), 1, "mid"), (1, "mid"))
        self.assertEqual(find(line_world(), 2, "low"), (2, "low"))
        self.assertEqual(find(line_world(), 3, "own"), (3, "own"))

    def test_several_have_it_and_the_topmost_counts(self):
        for loader in range(4):
            with self.subTest(loader):
                self.assertEqual(find(line_world(), loader, "all"), (0, "all"))
        self.assertEqual(find(line_world(), 3, "low"), (2, "low"))

    def test_like_names_of_unlike_loaders(self):
        world = tree_world()
        self.assertEqual(find(world, 1, "c"), (1, "c"))
        self.assertEqual(find(world, 2, "c"), (2, "c"))
        self.assertEqual(find(world, 3, "c"), (3, "c"))
        self.assertEqual(find(world, 2, "a"), (0, "a"))
        self.assertEqual(find(world, 3, "a"), (3, "a"))

    def test_every_place_of_a_shelf(self):
        world = world_of_names((None, "d b c a"))
        for name in "abcd":
            with self.subTest(name):
                self.assertEqual(find(world, 0, name), (0, name))

    def test_classes_and_faces(self):
        world = ((None, (some_face("a"), some_class("b"))), (0, (some_class("a"), some_face("c"))))
        self.assertEqual(find(world, 1, "a"), (0, "a"))
        self.assertEqual(find(world, 1, "b"), (0, "b"))
        self.assertEqual(find(world, 1, "c"), (1, "c"))

    def test_names_within_files_are_not_found(self):
        for name in ("draw", "move", "size", "made", "worn", "class", "face", "put"):
            with self.subTest(name):
                with self.assertRaises(NoClass):
                    find(full_world(), 1, name)

    def test_told_is_a_tuple_of_number_and_text(self):
        told = find(line_world(), 1, "top")
        self.assertIsInstance(told, tuple)
        self.assertEqual([part.__class__ for part in told], [int, str])

    def test_none_has_it(self):
        for loader in range(4):
            with self.subTest(loader):
                with self.assertRaises(NoClass):
                    find(line_world(), loader, "none")

    def test_only_a_loader_below_has_it(self):
        for loader, name in ((0, "mid"), (0, "low"), (1, "low"), (2, "own")):
            with self.subTest(loader):
                with self.assertRaises(NoClass):
                    find(line_world(), loader, name)

    def test_only_a_loader_beside_has_it(self):
        for loader, name in ((1, "d"), (3, "b"), (3, "d"), (0, "c")):
            with self.subTest(loader, name=name):
                with self.assertRaises(NoClass):
                    find(tree_world(), loader, name)

    def test_empty_shelves(self):
        with self.assertRaises(NoClass):
            find(((None, ()), (0, ())), 1, "a")


class FindRefuses(unittest.TestCase):
    def test_no_world(self):
        for world in NO_WORLDS:
            with self.subTest(world):
                with self.assertRaises(NoWorld):
                    asked(world, 0)
                with self.assertRaises(NoWorld):
                    find(world, 0, "a")

    def test_no_world_for_a_fault_in_any_place(self):
        world = full_world()
        for path in places(world):
            broken = replaced(world, path, True)
            with self.subTest(path):
                for call in (lambda: asked(broken, 0), lambda: find(broken, 0, "base")):
                    with self.assertRaises(NoWorld):
                        call()

    def test_loader_that_is_not_there(self):
        for loader in (-1, -4, 4, 5, 99, 10 ** 5000, -10 ** 5000):
            with self.subTest(loader.bit_length()):
                with self.assertRaises(NoLoader):
                    asked(line_world(), loader)
                with self.assertRaises(NoLoader):
                    find(line_world(), loader, "top")

    def test_first_number_that_is_no_loader(self):
        for count in (1, 2, 3, 4):
            world = ((None, ()),) * count
            with self.subTest(count):
                self.assertEqual(asked(world, count - 1), [count - 1])
                with self.assertRaises(NoLoader):
                    asked(world, count)

    def test_loaders_of_any_kind(self):
        for number, loader in enumerate(wrong_everywhere() + [None, "a", "0", (), (0,), [0], {0: 0}]):
            with self.subTest(number):
                with self.assertRaises(NoLoader):
                    asked(line_world(), loader)
                with self.assertRaises(NoLoader):
                    find(line_world(), loader, "top")

    def test_names_of_any_kind(self):
        for number, name in enumerate(wrong_everywhere() + [None, 0, 7, (), ("top",), ["top"], {"top": 0}]):
            with self.subTest(number):
                with self.assertRaises(NoClass):
                    find(line_world(), 0, name)

    def test_parts_of_names(self):
        for name in ("to", "topp", "Top", "op", "t"):
            with self.subTest(name):
                with self.assertRaises(NoClass):
                    find(line_world(), 0, name)

    def test_first_one_named_counts(self):
        with self.assertRaises(NoWorld):
            asked(None, None)
        with self.assertRaises(NoWorld):
            asked((), 0)
        with self.assertRaises(NoWorld):
            find((), 0, "a")
        with self.assertRaises(NoWorld):
            find(None, None, None)
        with self.assertRaises(NoWorld):
            find(None, 0, None)
        with self.assertRaises(NoWorld):
            find(((0, ()),), 7, "a")
        with self.assertRaises(NoLoader):
            find(line_world(), 4, "none")
        with self.assertRaises(NoLoader):
            find(line_world(), None, None)
        with self.assertRaises(NoLoader):
            find(line_world(), True, [])


class AllClasses(unittest.TestCase):
    def test_line(self):
        self.assertEqual(
            classes(line_world()),
            [(0, "all"), (0, "top"), (1, "mid"), (2, "low"), (3, "own")],
        )
        self.assertEqual(shadowed(line_world()), [(1, "all"), (2, "mid"), (3, "all"), (3, "low")])

    def test_not_above_one_another(self):
        self.assertEqual(
            classes(tree_world()),
            [(0, "a"), (0, "b"), (1, "c"), (2, "c"), (2, "d"), (3, "a"), (3, "c")],
        )
        self.assertEqual(shadowed(tree_world()), [(1, "a")])

    def test_a_loader_above_that_is_not_the_parent(self):
        world = world_of_names((None, "a"), (0, ""), (1, "a b"), (2, "b a"))
        self.assertEqual(classes(world), [(0, "a"), (2, "b")])
        self.assertEqual(shadowed(world), [(2, "a"), (3, "a"), (3, "b")])

    def test_a_loader_ahead_that_is_not_above(self):
        world = world_of_names((None, "a"), (None, "a"), (0, "b"), (1, "b"))
        self.assertEqual(classes(world), [(0, "a"), (1, "a"), (2, "b"), (3, "b")])
        self.assertEqual(shadowed(world), [])

    def test_rising_by_loader_then_name(self):
        world = world_of_names((None, "d b c a"), (None, "z y"), (0, "c e a"), (1, "z x y"))
        self.assertEqual(
            classes(world),
            [(0, "a"), (0, "b"), (0, "c"), (0, "d"), (1, "y"), (1, "z"), (2, "e"), (3, "x")],
        )
        self.assertEqual(shadowed(world), [(2, "a"), (2, "c"), (3, "y"), (3, "z")])

    def test_faces_too(self):
        world = ((None, (some_face("b"), some_class("a"))), (0, (some_class("b"), some_face("a"), some_face("c"))))
        self.assertEqual(classes(world), [(0, "a"), (0, "b"), (1, "c")])
        self.assertEqual(shadowed(world), [(1, "a"), (1, "b")])

    def test_names_within_files_hide_nothing(self):
        world = ((None, (some_class("a", "b", ("c",), (("need", "d"),)),)), (0, (some_class("b"), some_face("c"))))
        self.assertEqual(classes(world), [(0, "a"), (1, "b"), (1, "c")])
        self.assertEqual(shadowed(world), [])

    def test_empty_shelves(self):
        self.assertEqual(classes(((None, ()), (0, ()))), [])
        self.assertEqual(shadowed(((None, ()), (0, ()))), [])

    def test_classes_are_all_that_is_ever_found(self):
        for world in (line_world(), tree_world(), full_world()):
            found = set()
            for loader in range(len(world)):
                for shelf in world:
                    for file in shelf[1]:
                        try:
                            found.add(find(world, loader, file[1]))
                        except NoClass:
                            pass
            self.assertEqual(classes(world), sorted(found))

    def test_no_world(self):
        for world in NO_WORLDS + (((None, ()), (1, ())), True):
            with self.subTest(world):
                with self.assertRaises(NoWorld):
                    classes(world)
                with self.assertRaises(NoWorld):
                    shadowed(world)

    def test_no_world_for_things_of_any_kind(self):
        for number, thing in enumerate(wrong_everywhere()):
            with self.subTest(number):
                for told in (classes, shadowed):
                    with self.assertRaises(NoWorld):
                        told(thing)
                    with self.assertRaises(NoWorld):
                        told(replaced(full_world(), (1, 1, 0, 4, 0), thing))


class NothingChangedOrKept(unittest.TestCase):
    def test_worlds_are_as_before(self):
        world = line_world()
        before = copy.deepcopy(world)
        asked(world, 3)
        find(world, 3, "own")
        classes(world)
        shadowed(world)
        self.assertEqual(world, before)

    def test_what_is_refused_is_as_before(self):
        things = [[None, [["class", "a", None, [], []]]], {"a": [1]}, [0], ["top"]]
        before = copy.deepcopy(things)
        for thing in things:
            for call in (
                lambda: asked(thing, 0), lambda: classes(thing), lambda: shadowed(thing),
                lambda: asked(line_world(), thing), lambda: find(line_world(), thing, "top"),
                lambda: find(line_world(), 0, thing),
            ):
                with self.assertRaises((NoWorld, NoLoader, NoClass)):
                    call()
        self.assertEqual(things, before)

    def test_told_lists_are_new_ones(self):
        world = line_world()
        for told in (lambda: asked(world, 3), lambda: classes(world), lambda: shadowed(world)):
            check_new_lists(self, told)

    def test_equal_worlds_give_equal_answers(self):
        self.assertEqual(asked(line_world(), 3), asked(line_world(), 3))
        self.assertEqual(find(line_world(), 3, "mid"), find(line_world(), 3, "mid"))
        self.assertEqual(classes(line_world()), classes(line_world()))
        self.assertEqual(shadowed(line_world()), shadowed(line_world()))

    def test_a_refusal_changes_no_later_answer(self):
        world = line_world()
        before = (asked(world, 3), classes(world), shadowed(world), find(world, 3, "own"))
        for call in (lambda: asked(world, True), lambda: find(world, 9, "a"), lambda: find(world, 0, "none")):
            with self.assertRaises((NoLoader, NoClass)):
                call()
        self.assertEqual((asked(world, 3), classes(world), shadowed(world), find(world, 3, "own")), before)


if __name__ == "__main__":
    unittest.main()
