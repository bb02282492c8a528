import copy
import random
import unittest

from loaders.errors import NoClass, NotLinked, NoWorld
from loaders.finding import classes, find
from loaders.kinds import common, is_kind, kinds, supers, why_not
from samples import (
    NO_WORLDS, check_new_lists, full_world, no_classes, one_shelf, places, random_world, replaced, some_class,
    some_face, world_of_names, wrong_everywhere,
)


def good_world():
    """All can be linked: low, mid, top stand in a line, with faces on the way."""
    return (
        (None, (some_class("top", None, ("p",)), some_face("p", ("q",)), some_face("q"), some_class("alone"))),
        (0, (some_class("mid", "top", ("r", "q")), some_face("r", ("q", "p")))),
        (1, (some_class("low", "mid", ("p",)), some_class("side", "top"), some_class("b", "alone"))),
        (None, (some_class("top"), some_class("low", "top"))),
    )


def bad_world():
    """Beside good ones stand one that lacks, one of another kind, and one in a ring."""
    return (
        (None, (some_class("good"), some_class("lack", "none"), some_class("kind", "face"), some_face("face"))),
        (0, (some_class("ring", "ring"), some_class("below", "lack"), some_class("fine", "good"))),
        (1, (some_class("good"), some_class("own", "good"))),
    )


class WhyNot(unittest.TestCase):
    def tells(self, why, world, thing):
        self.assertEqual(why_not(world, thing), why)

    def test_nothing_above(self):
        self.tells(None, one_shelf(some_class("a")), (0, "a"))
        self.tells(None, one_shelf(some_face("a")), (0, "a"))

    def test_something_above(self):
        for thing in classes(good_world()):
            with self.subTest(thing):
                self.tells(None, good_world(), thing)

    def test_rows_are_not_looked_at(self):
        rows = (("need", "none"), ("read", "x", "a", "x"), ("need", "a"), ("fail", "no"))
        self.tells(None, one_shelf(some_class("a", None, (), rows)), (0, "a"))

    def test_lacks_what_is_named_above(self):
        self.tells(("lacks", "b"), one_shelf(some_class("a", "b")), (0, "a"))

    def test_lacks_a_face(self):
        world = one_shelf(some_class("a", None, ("f", "g")), some_face("f"), some_face("c", ("g",)))
        self.tells(("lacks", "g"), world, (0, "a"))
        self.tells(("lacks", "g"), world, (0, "c"))

    def test_one_above_that_is_a_face(self):
        self.tells(("kind", "f"), one_shelf(some_class("a", "f"), some_face("f")), (0, "a"))

    def test_face_that_is_a_class(self):
        world = one_shelf(some_class("a", None, ("b",)), some_class("b"), some_face("f", ("b",)))
        self.tells(("kind", "b"), world, (0, "a"))
        self.tells(("kind", "b"), world, (0, "f"))

    def test_above_itself(self):
        self.tells(("ring", "a"), one_shelf(some_class("a", "a")), (0, "a"))
        self.tells(("ring", "f"), one_shelf(some_face("f", ("f",))), (0, "f"))

    def test_ring_of_two(self):
        world = one_shelf(some_class("a", "b"), some_class("b", "a"))
        self.tells(("ring", "a"), world, (0, "a"))
        self.tells(("ring", "b"), world, (0, "b"))

    def test_ring_of_three(self):
        world = one_shelf(some_class("a", "b"), some_class("b", "c"), some_class("c", "a"))
        for name in "abc":
            with self.subTest(name):
                self.tells(("ring", name), world, (0, name))

    def test_ring_through_faces(self):
        world = one_shelf(
            some_face("f", ("g",)), some_face("g", ("h", "f")), some_face("h"), some_class("a", None, ("h", "g")),
        )
        self.tells(("ring", "f"), world, (0, "f"))
        self.tells(("ring", "g"), world, (0, "g"))
        self.tells(("ring", "g"), world, (0, "a"))
        self.tells(None, world, (0, "h"))

    def test_ring_further_up(self):
        world = (
            (None, (some_class("b", "c"), some_class("c", "b"))),
            (0, (some_class("a", "b"), some_class("d", "c"))),
        )
        self.tells(("ring", "b"), world, (1, "a"))
        self.tells(("ring", "c"), world, (1, "d"))

    def test_a_class_met_by_two_ways_is_no_ring(self):
        world = one_shelf(
            some_class("a", "b", ("f", "g")), some_class("b", None, ("g", "f")), some_face("f", ("g",)), some_face("g"),
        )
        for name in "abfg":
            with self.subTest(name):
                self.tells(None, world, (0, name))

    def test_of_one_name_the_first_fault_counts(self):
        self.tells(("kind", "a"), one_shelf(some_class("a", None, ("a",))), (0, "a"))
        world = one_shelf(some_class("a", "b"), some_class("b", None, ("a",)))
        self.tells(("kind", "a"), world, (0, "a"))
        self.tells(("lacks", "z"), one_shelf(some_class("a", "z", ("z",))), (0, "a"))

    def test_above_ahead_of_faces(self):
        for above, why in (("none", ("lacks", "none")), ("f", ("kind", "f")), ("a", ("ring", "a"))):
            for faces in (("no",), ("a",), ("f", "no")):
                with self.subTest(above, faces=faces):
                    self.tells(why, one_shelf(some_class("a", above, faces), some_face("f")), (0, "a"))

    def test_first_face_ahead_of_second(self):
        world = one_shelf(some_class("a", None, ("x", "y")), some_class("b", None, ("y", "x")))
        self.tells(("lacks", "x"), world, (0, "a"))
        self.tells(("lacks", "y"), world, (0, "b"))

    def test_further_up_ahead_of_own_faces(self):
        for above, why in (("none", ("lacks", "none")), ("f", ("kind", "f")), ("b", ("ring", "b"))):
            for faces in (("no",), ("b",), ("f", "no"), ("f", "a")):
                world = one_shelf(some_class("a", "b", faces), some_class("b", above), some_face("f"))
                with self.subTest(above, faces=faces):
                    self.tells(why, world, (0, "a"))

    def test_far_up_ahead_of_own_faces(self):
        world = one_shelf(some_class("a", "b", ("no",)), some_class("b", "c", ("nor",)), some_class("c", None, ("x",)))
        self.tells(("lacks", "x"), world, (0, "a"))
        self.tells(("lacks", "x"), world, (0, "b"))

    def test_above_a_face_ahead_of_the_next_face(self):
        world = one_shelf(some_class("a", None, ("f", "no")), some_face("f", ("g",)), some_face("g", ("x", "f")))
        self.tells(("lacks", "x"), world, (0, "a"))

    def test_own_faces_behind_a_sound_one_above(self):
        world = one_shelf(some_class("a", "b", ("f", "no")), some_class("b", None, ("f",)), some_face("f"))
        self.tells(("lacks", "no"), world, (0, "a"))

    def test_what_is_fine_itself_beside_what_is_not(self):
        self.assertEqual(
            [(thing, why_not(bad_world(), thing)) for thing in classes(bad_world())],
            [
                ((0, "face"), None), ((0, "good"), None), ((0, "kind"), ("kind", "face")),
                ((0, "lack"), ("lacks", "none")), ((1, "below"), ("lacks", "none")), ((1, "fine"), None),
                ((1, "ring"), ("ring", "ring")), ((2, "own"), None),
            ],
        )

    def test_names_are_found_by_the_loader_that_has_the_file(self):
        world = (
            (None, (some_class("base", "root"), some_face("f", ("g",)))),
            (0, (some_class("root"), some_face("g"), some_class("a", "base"), some_class("b", None, ("f",)))),
        )
        self.tells(("lacks", "root"), world, (0, "base"))
        self.tells(("lacks", "root"), world, (1, "a"))
        self.tells(("lacks", "g"), world, (1, "b"))

    def test_names_are_found_parents_first(self):
        world = (
            (None, (some_face("x"), some_class("y"))),
            (0, (some_class("x"), some_face("y"), some_class("a", "x"), some_class("b", None, ("y",)))),
            (None, (some_class("x"), some_face("y"), some_class("a", "x"), some_class("b", None, ("y",)))),
        )
        self.tells(("kind", "x"), world, (1, "a"))
        self.tells(("kind", "y"), world, (1, "b"))
        self.tells(None, world, (2, "a"))
        self.tells(None, world, (2, "b"))

    def test_like_names_of_unlike_loaders_are_no_ring(self):
        world = (
            (None, (some_class("a"),)), (None, (some_class("b", "a"), some_class("a"))),
            (0, (some_class("b", "a"), some_class("c", "b"))),
        )
        for thing in classes(world):
            with self.subTest(thing):
                self.tells(None, world, thing)


def plain_why(world, thing, below):
    """What point 4 says, with nothing remembered on the way."""
    file = [file for file in world[thing[0]][1] if file[1] == thing[1]][0]
    for name, kind in [(file[2], "class")] * (file[2] is not None) + [(name, "face") for name in file[3]]:
        try:
            upper = find(world, thing[0], name)
        except NoClass:
            return ("lacks", name)
        if [file[0] for file in world[upper[0]][1] if file[1] == name] != [kind]:
            return ("kind", name)
        if upper in below + [thing]:
            return ("ring", name)
        why = plain_why(world, upper, below + [thing])
        if why is not None:
            return why
    return None


class ManyWorlds(unittest.TestCase):
    def test_why_not(self):
        chance = random.Random(4)
        seen = set()
        for number in range(400):
            world = random_world(chance, number % 4 < 3)
            for thing in classes(world):
                why = why_not(world, thing)
                seen.add(why and why[0])
                with self.subTest(world, thing=thing):
                    self.assertEqual(why, plain_why(world, thing, []))
        self.assertEqual(seen, {None, "lacks", "kind", "ring"})

    def test_kinds_of_one_are_kinds_of_those_below(self):
        chance = random.Random(5)
        for number in range(200):
            world = random_world(chance, False)
            for thing in classes(world):
                if why_not(world, thing) is None:
                    told = kinds(world, thing)
                    self.assertEqual(told, sorted(set(told)))
                    self.assertEqual(told, [other for other in classes(world) if is_kind(world, thing, other)])
                    self.assertLessEqual(set(supers(world, thing)), set(told))
                    for other in told:
                        self.assertLessEqual(set(kinds(world, other)), set(told))


class Lines(unittest.TestCase):
    def test_supers(self):
        for thing, line in (
            ((0, "top"), [(0, "top")]),
            ((0, "p"), [(0, "p")]),
            ((1, "mid"), [(1, "mid"), (0, "top")]),
            ((2, "low"), [(2, "low"), (1, "mid"), (0, "top")]),
            ((2, "side"), [(2, "side"), (0, "top")]),
            ((3, "low"), [(3, "low"), (3, "top")]),
        ):
            with self.subTest(thing):
                self.assertEqual(supers(good_world(), thing), line)

    def test_a_line_goes_up_and_need_not_rise(self):
        world = one_shelf(some_class("a", "c"), some_class("b"), some_class("c", "b"))
        self.assertEqual(supers(world, (0, "a")), [(0, "a"), (0, "c"), (0, "b")])

    def test_kinds(self):
        for thing, told in (
            ((0, "alone"), [(0, "alone")]),
            ((0, "q"), [(0, "q")]),
            ((0, "p"), [(0, "p"), (0, "q")]),
            ((0, "top"), [(0, "p"), (0, "q"), (0, "top")]),
            ((1, "r"), [(0, "p"), (0, "q"), (1, "r")]),
            ((1, "mid"), [(0, "p"), (0, "q"), (0, "top"), (1, "mid"), (1, "r")]),
            ((2, "low"), [(0, "p"), (0, "q"), (0, "top"), (1, "mid"), (1, "r"), (2, "low")]),
            ((2, "b"), [(0, "alone"), (2, "b")]),
            ((3, "low"), [(3, "low"), (3, "top")]),
        ):
            with self.subTest(thing):
                self.assertEqual(kinds(good_world(), thing), told)

    def test_kinds_are_found_by_the_loader_that_has_the_file(self):
        world = (
            (None, (some_class("a", None, ("f",)), some_face("f"))),
            (None, (some_face("f"), some_class("b", None, ("f",)))),
            (1, (some_class("a"), some_class("c", "a"))),
        )
        self.assertEqual(kinds(world, (0, "a")), [(0, "a"), (0, "f")])
        self.assertEqual(kinds(world, (1, "b")), [(1, "b"), (1, "f")])
        self.assertEqual(kinds(world, (2, "c")), [(2, "a"), (2, "c")])

    def test_is_kind(self):
        for one in classes(good_world()):
            told = kinds(good_world(), one)
            for other in classes(good_world()):
                with self.subTest(one, other=other):
                    self.assertIs(is_kind(good_world(), one, other), other in told)

    def test_is_kind_of_what_is_written(self):
        for one, other, told in (
            ((2, "low"), (2, "low"), True), ((2, "low"), (0, "q"), True), ((0, "q"), (2, "low"), False),
            ((2, "low"), (0, "top"), True), ((2, "low"), (3, "top"), False), ((3, "low"), (0, "top"), False),
            ((2, "side"), (1, "mid"), False),
        ):
            with self.subTest(one, other=other):
                self.assertIs(is_kind(good_world(), one, other), told)

    def test_is_kind_of_one_that_cannot_be_linked(self):
        for name in ("lack", "kind"):
            with self.subTest(name):
                self.assertIs(is_kind(bad_world(), (0, "good"), (0, name)), False)
        self.assertIs(is_kind(bad_world(), (1, "fine"), (1, "ring")), False)

    def test_common(self):
        for one, other, told in (
            ((2, "low"), (2, "low"), (2, "low")),
            ((2, "low"), (1, "mid"), (1, "mid")),
            ((1, "mid"), (2, "low"), (1, "mid")),
            ((2, "low"), (2, "side"), (0, "top")),
            ((2, "side"), (2, "low"), (0, "top")),
            ((2, "low"), (0, "alone"), None),
            ((2, "low"), (2, "b"), None),
            ((2, "low"), (3, "low"), None),
            ((0, "top"), (3, "top"), None),
        ):
            with self.subTest(one, other=other):
                self.assertEqual(common(good_world(), one, other), told)

    def test_common_is_the_nearest(self):
        world = (
            (None, (some_class("a"), some_class("b", "a"), some_class("c", "b"))),
            (0, (some_class("d", "c"), some_class("e", "c"), some_class("f", "b"))),
        )
        self.assertEqual(common(world, (1, "d"), (1, "e")), (0, "c"))
        self.assertEqual(common(world, (1, "d"), (1, "f")), (0, "b"))
        self.assertEqual(common(world, (1, "f"), (1, "e")), (0, "b"))

    def test_faces_are_in_no_line_but_their_own(self):
        self.assertIsNone(common(good_world(), (1, "mid"), (1, "r")))
        self.assertIsNone(common(good_world(), (1, "r"), (0, "p")))
        self.assertIsNone(common(good_world(), (1, "r"), (1, "mid")))
        self.assertEqual(common(good_world(), (1, "r"), (1, "r")), (1, "r"))


ALONE = (why_not, supers, kinds)
PAIRS = (is_kind, common)


class Refused(unittest.TestCase):
    def refuses(self, error, told, *things):
        with self.assertRaises(error) as taken:
            told(*things)
        return taken.exception

    def test_no_world(self):
        for world in NO_WORLDS + (((None, ()), (1, ())), True):
            with self.subTest(world):
                for told in ALONE:
                    self.refuses(NoWorld, told, world, (0, "a"))
                for told in PAIRS:
                    self.refuses(NoWorld, told, world, (0, "a"), (0, "a"))

    def test_no_world_for_a_fault_in_any_place(self):
        for path in places(full_world()):
            world = replaced(full_world(), path, True)
            with self.subTest(path):
                for told in ALONE:
                    self.refuses(NoWorld, told, world, (0, "base"))
                for told in PAIRS:
                    self.refuses(NoWorld, told, world, (0, "base"), (0, "base"))

    def test_no_world_for_things_of_any_kind_and_ahead_of_the_rest(self):
        for number, world in enumerate(wrong_everywhere()):
            for place, thing in enumerate(wrong_everywhere()):
                with self.subTest(number, thing=place):
                    for told in ALONE:
                        self.refuses(NoWorld, told, world, thing)
                    for told in PAIRS:
                        self.refuses(NoWorld, told, world, thing, thing)

    def test_no_class_for_things_of_any_kind(self):
        for number, thing in enumerate(no_classes(good_world(), (0, "top")) + no_classes(good_world(), (1, "mid"))):
            with self.subTest(number):
                for told in ALONE:
                    self.refuses(NoClass, told, good_world(), thing)
                for told in PAIRS:
                    self.refuses(NoClass, told, good_world(), thing, (0, "top"))
                    self.refuses(NoClass, told, good_world(), (0, "top"), thing)
                    self.refuses(NoClass, told, good_world(), thing, thing)

    def test_true_and_false_behind_equal_classes(self):
        world = world_of_names((None, "a"), (None, "a"))
        for loader in (0, 1):
            self.assertIsNone(why_not(world, (loader, "a")))
            self.refuses(NoClass, why_not, world, (bool(loader), "a"))
            self.refuses(NoClass, is_kind, world, (loader, "a"), (bool(loader), "a"))

    def test_no_class_for_files_that_are_never_found(self):
        for told in ALONE:
            self.refuses(NoClass, told, bad_world(), (2, "good"))
        for told in PAIRS:
            self.refuses(NoClass, told, bad_world(), (2, "good"), (0, "good"))
            self.refuses(NoClass, told, bad_world(), (0, "good"), (2, "good"))

    def test_no_class_for_what_a_loader_finds_elsewhere(self):
        world = world_of_names((None, "a"), (0, "b"))
        for told in ALONE:
            self.refuses(NoClass, told, world, (1, "a"))
            self.refuses(NoClass, told, world, (0, "b"))

    def test_not_linked_with_its_why(self):
        for thing, why in (
            ((0, "lack"), ("lacks", "none")), ((0, "kind"), ("kind", "face")), ((1, "ring"), ("ring", "ring")),
            ((1, "below"), ("lacks", "none")),
        ):
            with self.subTest(thing):
                for told in (supers, kinds):
                    self.assertEqual(self.refuses(NotLinked, told, bad_world(), thing).why, why)
                for told in PAIRS:
                    self.assertEqual(self.refuses(NotLinked, told, bad_world(), thing, (0, "good")).why, why)
                self.assertEqual(self.refuses(NotLinked, common, bad_world(), (0, "good"), thing).why, why)

    def test_order_of_is_kind(self):
        self.refuses(NoClass, is_kind, bad_world(), (0, "no"), (0, "lack"))
        self.refuses(NotLinked, is_kind, bad_world(), (0, "lack"), (0, "no"))
        self.refuses(NoClass, is_kind, bad_world(), (0, "good"), (0, "no"))

    def test_order_of_common(self):
        self.refuses(NoClass, common, bad_world(), (0, "no"), (0, "lack"))
        self.refuses(NotLinked, common, bad_world(), (0, "lack"), (0, "no"))
        self.refuses(NoClass, common, bad_world(), (0, "good"), (0, "no"))
        taken = self.refuses(NotLinked, common, bad_world(), (0, "kind"), (0, "lack"))
        self.assertEqual(taken.why, ("kind", "face"))


class NothingChangedOrKept(unittest.TestCase):
    def test_worlds_are_as_before(self):
        for world in (good_world(), bad_world()):
            before = copy.deepcopy(world)
            for thing in classes(world):
                if why_not(world, thing) is None:
                    supers(world, thing)
                    kinds(world, thing)
                    is_kind(world, thing, thing)
                    common(world, thing, thing)
            self.assertEqual(world, before)

    def test_what_is_refused_is_as_before(self):
        things = [[0, "top"], [[0, "top"]], {"a": [1]}]
        before = copy.deepcopy(things)
        for thing in things:
            for told in ALONE:
                with self.assertRaises(NoClass):
                    told(good_world(), thing)
                with self.assertRaises(NoWorld):
                    told(thing, (0, "top"))
        self.assertEqual(things, before)

    def test_told_lists_are_new_ones(self):
        world = good_world()
        for told in (supers, kinds):
            check_new_lists(self, lambda: told(world, (2, "low")))

    def test_equal_things_give_equal_answers(self):
        for told in ALONE:
            self.assertEqual(told(good_world(), (2, "low")), told(good_world(), (2, "low")))
        for told in PAIRS:
            self.assertEqual(
                told(good_world(), (2, "low"), (0, "top")), told(good_world(), (2, "low"), (0, "top")),
            )


if __name__ == "__main__":
    unittest.main()
