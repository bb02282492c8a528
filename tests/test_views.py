"""Point 12: worlds with a file more, with one fewer, and tidy ones."""

import copy
import random
import unittest

from loaders.errors import NoFile, NoLoader, NoWorld
from loaders.files import checked
from loaders.finding import shadowed
from loaders.views import tidy, with_file, without_file
from samples import (
    NO_WORLDS, full_world, one_shelf, part_at, places, random_world, replaced, some_class, some_face, world_of_names,
    wrong_everywhere,
)

FILE = some_class("new", "base", ("shape",), (("put", "size", 3), ("need", "new")))


def shelf_of(world, loader):
    return world[loader][1]


def names_of(world, loader):
    return [file[1] for file in shelf_of(world, loader)]


def no_loaders(world):
    """Made anew each time; none of these is a loader of the world."""
    wrong = wrong_everywhere() + [None, len(world), len(world) + 1, -len(world), "0", (0,), [0], ()]
    return [thing for thing in wrong if thing.__class__ is not int or not 0 <= thing < len(world)]


def no_files():
    """Made anew each time; none of these is a file."""
    wrong = wrong_everywhere() + [None, (), FILE[:4], FILE + ((),), list(FILE), (FILE,), one_shelf(FILE), "class new"]
    for path in places(FILE)[1:]:
        wrong.extend(replaced(FILE, path, thing) for thing in wrong_everywhere())
        if isinstance(part_at(FILE, path), tuple):
            wrong.append(replaced(FILE, path, list(part_at(FILE, path))))
    wrong.extend([
        ("face", "new", "base", (), ()), ("faces", "new", None, (), ()), (None, "new", None, (), ()),
        some_class(None), some_class("seventy"), some_class("a", None, ("b", "b")), some_class("a", None, ("b", "c", "d")),
        some_class("a", None, (), (("note", "one"),) * 6), some_class("a", None, (), (("put", "x", 100),)),
        some_class("a", None, (), (("put", "x", True),)), some_class("a", None, (), (("puts", "x", 1),)),
    ])
    return wrong


class WithFile(unittest.TestCase):
    def test_in_the_place_of_the_one_of_its_name(self):
        world = world_of_names((None, "a b c d"), (0, "a b c d"))
        for loader in (0, 1):
            for place, name in enumerate("abcd"):
                file = some_class(name, None, (), (("note", "other"),))
                told = with_file(world, loader, file)
                with self.subTest(loader, place=place):
                    self.assertEqual(told, replaced(world, (loader, 1, place), file))

    def test_by_a_face_of_its_name(self):
        told = with_file(world_of_names((None, "a b c")), 0, some_face("b"))
        self.assertEqual(told, one_shelf(some_class("a"), some_face("b"), some_class("c")))

    def test_behind_the_others(self):
        for names in ("a", "a b", "a b c", "z y x"):
            world = world_of_names((None, names), (None, names))
            for loader in (0, 1):
                told = with_file(world, loader, FILE)
                with self.subTest(names, loader=loader):
                    self.assertEqual(shelf_of(told, loader), shelf_of(world, loader) + (FILE,))
                    self.assertEqual(told[1 - loader], world[1 - loader])
                    self.assertEqual(told[loader][0], world[loader][0])

    def test_on_an_empty_shelf(self):
        self.assertEqual(with_file(((None, ()),), 0, FILE), one_shelf(FILE))
        self.assertEqual(with_file(((None, ()), (0, ()), (1, ())), 1, FILE), ((None, ()), (0, (FILE,)), (1, ())))

    def test_again_it_is_as_it_was(self):
        for loader in range(4):
            once = with_file(full_world(), loader, FILE)
            self.assertEqual(with_file(once, loader, FILE), once)

    def test_shelves_of_other_loaders_do_not_count(self):
        world = world_of_names((None, "a b c d"), (0, "e"), (0, "f"))
        file = some_class("a")
        self.assertEqual(names_of(with_file(world, 1, file), 1), ["e", "a"])
        self.assertEqual(names_of(with_file(world, 2, file), 2), ["f", "a"])

    def test_a_full_shelf(self):
        world = world_of_names((None, "a b c d"), (0, "e f g h"), (0, "a"))
        for loader in (0, 1):
            with self.assertRaises(NoFile):
                with_file(world, loader, FILE)
        with self.assertRaises(NoFile):
            with_file(world, 0, some_class("e"))
        with self.assertRaises(NoFile):
            with_file(world, 1, some_class("a"))
        self.assertEqual(names_of(with_file(world, 0, some_class("d", "c")), 0), ["a", "b", "c", "d"])
        self.assertEqual(names_of(with_file(world, 2, FILE), 2), ["a", "new"])

    def test_up_to_four(self):
        world = ((None, ()),)
        for count, name in enumerate("dbca"):
            world = with_file(world, 0, some_class(name))
            self.assertEqual(names_of(world, 0), list("dbca"[:count + 1]))
        with self.assertRaises(NoFile):
            with_file(world, 0, some_class("e"))

    def test_things_that_are_no_file(self):
        for world in (full_world(), world_of_names((None, "a b c d"))):
            for number, file in enumerate(no_files()):
                with self.subTest(len(world), file=number), self.assertRaises(NoFile):
                    with_file(world, 0, file)

    def test_each_kind_of_file(self):
        for file in (
            some_class("a"), some_face("a"), some_class("a", "a"), some_class("a", None, ("a", "b")), some_face("a", ("c",)),
            some_class("a", None, (), (
                ("put", "x", 0), ("read", "x", "a", "y"), ("need", "a"), ("note", "b"), ("fail", "c"),
            )),
        ):
            self.assertEqual(with_file(((None, ()),), 0, file), one_shelf(file))


class WithoutFile(unittest.TestCase):
    def test_at_each_place(self):
        world = world_of_names((None, "a b c d"), (0, "a b c d"), (1, "a"))
        for loader in (0, 1):
            for name in "abcd":
                told = without_file(world, loader, name)
                with self.subTest(loader, name=name):
                    self.assertEqual(names_of(told, loader), [other for other in "abcd" if other != name])
                    self.assertEqual(told[loader][0], world[loader][0])
                    self.assertEqual([told[other] for other in range(3) if other != loader], [
                        world[other] for other in range(3) if other != loader
                    ])

    def test_the_only_one(self):
        self.assertEqual(without_file(one_shelf(FILE), 0, "new"), ((None, ()),))

    def test_what_stays_is_as_it_was(self):
        self.assertEqual(without_file(full_world(), 0, "shape"), replaced(full_world(), (0, 1), full_world()[0][1][:1]))
        self.assertEqual(without_file(full_world(), 1, "ball"), replaced(full_world(), (1, 1), ()))

    def test_one_that_is_never_found(self):
        world = world_of_names((None, "a"), (0, "a b"))
        self.assertEqual(without_file(world, 1, "a"), world_of_names((None, "a"), (0, "b")))

    def test_put_and_taken_away_again(self):
        for loader in range(4):
            self.assertEqual(without_file(with_file(full_world(), loader, FILE), loader, "new"), full_world())

    def test_a_name_that_is_not_there(self):
        world = world_of_names((None, "a"), (0, "b"), (None, ""), (1, "c"))
        for loader, names in enumerate(("bcd", "acd", "abcd", "abd")):
            for name in names:
                with self.subTest(loader, name=name), self.assertRaises(NoFile):
                    without_file(world, loader, name)

    def test_names_that_are_no_words(self):
        for number, name in enumerate(wrong_everywhere() + [None, 0, 1, ("base",), ["base"], some_class("base"), "base ", " base"]):
            with self.subTest(number), self.assertRaises(NoFile):
                without_file(full_world(), 0, name)


class Tidy(unittest.TestCase):
    def test_without_files_that_are_never_found(self):
        for world, wanted in (
            (world_of_names((None, "a b"), (0, "b c")), world_of_names((None, "a b"), (0, "c"))),
            (world_of_names((None, "a"), (0, "a"), (1, "a")), world_of_names((None, "a"), (0, ""), (1, ""))),
            (world_of_names((None, "b"), (0, "a"), (1, "a b")), world_of_names((None, "b"), (0, "a"), (1, ""))),
            (
                world_of_names((None, "a"), (0, "b c"), (0, "b a d"), (2, "c d e b")),
                world_of_names((None, "a"), (0, "b c"), (0, "b d"), (2, "c e")),
            ),
        ):
            with self.subTest(world):
                self.assertEqual(tidy(world), wanted)

    def test_tidy_ones_are_as_they_were(self):
        for world in (
            ((None, ()),), full_world(), world_of_names((None, "a b"), (0, "c")), world_of_names((None, "a"), (None, "a")),
            world_of_names((None, "a"), (0, "b"), (0, "b")),
        ):
            with self.subTest(world):
                self.assertEqual(shadowed(world), [])
                self.assertEqual(tidy(world), world)

    def test_takes_away_just_what_shadowed_tells(self):
        chance = random.Random(40)
        count = 0
        for number in range(300):
            world = random_world(chance, True)
            gone = shadowed(world)
            told = tidy(world)
            count += len(gone)
            with self.subTest(world):
                self.assertEqual(told, tuple(
                    (parent, tuple(file for file in shelf if (place, file[1]) not in gone))
                    for place, (parent, shelf) in enumerate(world)
                ))
                self.assertEqual(checked(told), told)
                self.assertEqual(shadowed(told), [])
                self.assertEqual(tidy(told), told)
        self.assertGreater(count, 100)


class Refusals(unittest.TestCase):
    def test_no_world(self):
        for world in NO_WORLDS + (True, ((None, ()), (1, ()))):
            for loader in (0, None, True):
                with self.subTest(world, loader=loader):
                    for call in (
                        lambda: with_file(world, loader, FILE), lambda: with_file(world, loader, None),
                        lambda: without_file(world, loader, "a"), lambda: without_file(world, loader, None),
                        lambda: tidy(world),
                    ):
                        with self.assertRaises(NoWorld):
                            call()

    def test_no_world_for_things_of_any_kind(self):
        for path in places(full_world()):
            for number, thing in enumerate(wrong_everywhere()):
                world = replaced(full_world(), path, thing)
                with self.subTest(path, thing=number):
                    for call in (
                        lambda: with_file(world, thing, thing), lambda: without_file(world, thing, thing), lambda: tidy(world),
                    ):
                        with self.assertRaises(NoWorld):
                            call()

    def test_no_loader(self):
        for world in (full_world(), one_shelf(FILE), world_of_names((None, "a"), (0, "b"))):
            for number, loader in enumerate(no_loaders(world)):
                with self.subTest(len(world), loader=number):
                    for call in (
                        lambda: with_file(world, loader, FILE), lambda: with_file(world, loader, None),
                        lambda: with_file(world, loader, loader), lambda: without_file(world, loader, "a"),
                        lambda: without_file(world, loader, None), lambda: without_file(world, loader, loader),
                    ):
                        with self.assertRaises(NoLoader):
                            call()

    def test_no_loader_for_true_and_false(self):
        world = world_of_names((None, "a"), (0, "a"))
        for loader in (True, False):
            with_file(world, int(loader), FILE)
            without_file(world, int(loader), "a")
            with self.assertRaises(NoLoader):
                with_file(world, loader, FILE)
            with self.assertRaises(NoLoader):
                without_file(world, loader, "a")


class NothingChangedOrKept(unittest.TestCase):
    def test_what_was_handed_in_is_as_before(self):
        world = world_of_names((None, "a b"), (0, "b c"))
        file = copy.deepcopy(FILE)
        before = copy.deepcopy((world, file))
        with_file(world, 1, file)
        without_file(world, 0, "a")
        tidy(world)
        self.assertEqual((world, file), before)

    def test_what_is_refused_is_as_before(self):
        things = [["class", "a", None, (), ()], {"a": [1]}, [0], ("class", "a", None, [], [])]
        before = copy.deepcopy(things)
        for thing in things:
            for call in (
                lambda: with_file(full_world(), 0, thing), lambda: without_file(full_world(), 0, thing),
                lambda: with_file(full_world(), thing, FILE), lambda: tidy(thing),
            ):
                with self.assertRaises((NoWorld, NoLoader, NoFile)):
                    call()
        self.assertEqual(things, before)

    def test_what_is_told_is_a_world(self):
        chance = random.Random(41)
        for number in range(200):
            world = random_world(chance, True)
            loader = chance.randrange(len(world))
            if len(world[loader][1]) < 4:
                told = with_file(world, loader, FILE)
                self.assertEqual(checked(told), told)
            for name in names_of(world, loader):
                told = without_file(world, loader, name)
                self.assertEqual(checked(told), told)


if __name__ == "__main__":
    unittest.main()
