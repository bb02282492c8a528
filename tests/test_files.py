import copy
import unittest

from loaders.errors import NoWorld
from loaders.files import checked
from samples import (
    full_world, part_at, places, replaced, some_class, some_face, world_of_file, world_of_names,
    world_of_row, wrong_everywhere,
)


class Told(unittest.TestCase):
    def tells(self, world):
        before = copy.deepcopy(world)
        told = checked(world)
        self.assertEqual(told, before)
        self.assertIsInstance(told, tuple)
        self.assertEqual(world, before)

    def test_full_world(self):
        self.tells(full_world())

    def test_one_to_four_loaders(self):
        for count in (1, 2, 3, 4):
            with self.subTest(count):
                self.tells(((None, ()),) * count)

    def test_none_to_four_files(self):
        for names in ("", "a", "a b", "a b c", "a b c d"):
            with self.subTest(names):
                self.tells(world_of_names((None, names)))

    def test_like_names_on_unlike_shelves(self):
        self.tells(world_of_names((None, "a b"), (0, "a b"), (None, "a b")))

    def test_every_parent_ahead(self):
        for second in (None, 0):
            for third in (None, 0, 1):
                for fourth in (None, 0, 1, 2):
                    with self.subTest((second, third, fourth)):
                        self.tells(((None, ()), (second, ()), (third, ()), (fourth, ())))

    def test_words_of_one_to_six_letters(self):
        for word in ("a", "z", "az", "abc", "wxyz", "abcde", "abcdef", "zzzzzz"):
            with self.subTest(word):
                self.tells(world_of_file(some_class(word, word, (word,), (("need", word),))))

    def test_every_letter_from_a_to_z(self):
        for number in range(ord("a"), ord("z") + 1):
            with self.subTest(chr(number)):
                self.tells(world_of_file(some_class(chr(number))))

    def test_every_number(self):
        for number in range(100):
            with self.subTest(number):
                self.tells(world_of_row(("put", "a", number)))

    def test_every_kind_of_row(self):
        for row in (
            ("put", "a", 5), ("read", "a", "b", "c"), ("read", "a", "a", "a"),
            ("need", "b"), ("note", "c"), ("fail", "d"), ("put", "put", 1), ("need", "need"),
        ):
            with self.subTest(row):
                self.tells(world_of_row(row))

    def test_none_to_five_rows_alike_or_not(self):
        rows = (("note", "a"), ("note", "a"), ("put", "a", 1), ("put", "a", 1), ("fail", "b"))
        for count in range(6):
            with self.subTest(count):
                self.tells(world_of_file(some_class("a", None, (), rows[:count])))
                self.tells(world_of_file(some_face("a", (), rows[:count])))

    def test_none_to_two_faces(self):
        for faces in ((), ("a",), ("a", "b"), ("b", "a")):
            with self.subTest(faces):
                self.tells(world_of_file(some_class("a", None, faces)))
                self.tells(world_of_file(some_face("a", faces)))

    def test_class_with_and_without_one_above(self):
        self.tells(world_of_file(some_class("a")))
        self.tells(world_of_file(some_class("a", "b")))
        self.tells(world_of_file(some_class("a", "a")))
        self.tells(world_of_file(some_class("a", "b", ("b",))))

    def test_words_that_are_also_kinds(self):
        self.tells(world_of_file(some_class("class", "face", ("face",))))
        self.tells(world_of_file(some_face("face", ("class",))))

    def test_equal_worlds_give_equal_answers(self):
        self.assertEqual(checked(full_world()), checked(full_world()))


class Refused(unittest.TestCase):
    def refuses(self, world):
        with self.assertRaises(NoWorld):
            checked(world)

    def refuses_all(self, worlds):
        for world in worlds:
            with self.subTest(world):
                self.refuses(world)

    def test_no_loader_and_five(self):
        self.refuses(())
        self.refuses(((None, ()),) * 5)

    def test_loader_of_another_length(self):
        self.refuses_all((((),), ((None,),), ((None, (), ()),), (((),),)))

    def test_parents_that_are_not_ahead(self):
        self.refuses_all((
            ((0, ()),),
            ((1, ()), (None, ())),
            ((None, ()), (1, ())),
            ((None, ()), (2, ()), (None, ())),
            ((None, ()), (2, ())),
            ((None, ()), (4, ())),
            ((None, ()), (-1, ())),
            ((-1, ()),),
            ((None, ()), (None, ()), (None, ()), (3, ())),
        ))

    def test_a_fault_of_the_last_loader(self):
        for loader in ((3, ()), (None, []), (None, (some_class(""),)), None):
            with self.subTest(loader):
                self.refuses(((None, ()), (0, ()), (1, ()), loader))

    def test_true_and_false_as_parents(self):
        self.refuses(((None, ()), (False, ())))
        self.refuses(((None, ()), (None, ()), (True, ())))

    def test_true_and_false_as_numbers(self):
        for number in (True, False):
            with self.subTest(number):
                self.refuses(world_of_row(("put", "a", number)))

    def test_true_is_refused_behind_an_equal_world(self):
        checked(world_of_row(("put", "a", 1)))
        self.refuses(world_of_row(("put", "a", True)))

    def test_five_files(self):
        self.refuses(world_of_names((None, "a b c d e")))

    def test_like_names_on_a_shelf(self):
        self.refuses_all((
            world_of_names((None, "a a")),
            world_of_names((None, "a b c a")),
            world_of_names((None, ""), (0, "b b")),
            ((None, (some_class("a"), some_face("a"))),),
            ((None, (some_class("a", "b"), some_class("a", "c"))),),
        ))

    def test_files_of_another_length(self):
        whole = some_class("a", "b", ("c",), (("need", "d"),))
        self.refuses_all([world_of_file(whole[:count]) for count in range(5)])
        self.refuses(world_of_file(whole + ((),)))

    def test_unknown_kinds_of_file(self):
        for kind in ("klass", "classy", "faces", "fac", "a", "put", "Class", "FACE", ""):
            for above in (None, "b"):
                with self.subTest(kind, above=above):
                    self.refuses(world_of_file((kind, "a", above, (), ())))

    def test_face_with_something_above(self):
        for above in ("b", "a", "", "B", 0, False, (), ("b",)):
            with self.subTest(above):
                self.refuses(world_of_file(("face", "a", above, (), ())))

    def test_like_faces_and_three(self):
        for faces in (("b", "b"), ("b", "c", "d"), ("b", "c", "b"), ("b", "c", "d", "e")):
            with self.subTest(faces):
                self.refuses(world_of_file(some_class("a", None, faces)))
                self.refuses(world_of_file(some_face("a", faces)))

    def test_faces_that_are_no_words(self):
        for faces in (("B",), ("b", ""), ("", "b"), ("b", None), (None,), ([],), (("b",),), "b", "bc", ("b", 1)):
            with self.subTest(faces):
                self.refuses(world_of_file(some_class("a", None, faces)))

    def test_six_rows(self):
        rows = (("note", "a"),) * 6
        self.refuses(world_of_file(some_class("a", None, (), rows)))
        self.refuses(world_of_file(some_face("a", (), rows)))

    def test_one_wrong_row_among_right_ones(self):
        for place in range(5):
            rows = [("note", "a")] * 5
            rows[place] = ("note", "A")
            with self.subTest(place):
                self.refuses(world_of_file(some_class("a", None, (), tuple(rows))))

    def test_unknown_kinds_of_row(self):
        for first in ("puts", "pu", "reads", "needs", "noted", "failed", "a", "", "PUT", "class"):
            for rest in (("a",), ("a", 1), ("a", "b"), ("a", "b", "c")):
                with self.subTest(first, rest=rest):
                    self.refuses(world_of_row((first,) + rest))

    def test_rows_of_another_length(self):
        for row in (
            ("put", "a", 1), ("read", "a", "b", "c"), ("need", "a"), ("note", "a"), ("fail", "a"),
        ):
            for count in range(len(row)):
                with self.subTest(row[:count]):
                    self.refuses(world_of_row(row[:count]))
            for more in (("a",), (1,), (None,), ("a", "b")):
                with self.subTest(row + more):
                    self.refuses(world_of_row(row + more))

    def test_row_of_one_kind_as_if_of_another(self):
        for row in (
            ("put", "a", "b", "c"), ("put", "a"), ("put", "a", "b"), ("put", 1, "a"), ("put", 1, 1),
            ("read", "a"), ("read", "a", 1), ("read", "a", "b", 1), ("need", 1), ("note", 1), ("fail", 1),
            ("need", "a", 1), ("note", "a", 1), ("fail", "a", 1), ("need", "a", "b", "c"),
        ):
            with self.subTest(row):
                self.refuses(world_of_row(row))

    def test_numbers_below_and_above(self):
        for number in (-1, 100, -99, 101, 1000, 10 ** 5000, -10 ** 5000):
            with self.subTest(number.bit_length()):
                self.refuses(world_of_row(("put", "a", number)))

    def test_wrong_words_in_every_place_of_a_word(self):
        words = (
            "", "abcdefg", "A", "aB", "Abc", "a b", " a", "a ", "a\n", "a_b", "a-b", "a.", "1", "a1",
            "\u00e4", "a\u00df", "\u00e9", "\u03b1", "\u0430", "\u00aa", "\uff41", "`", "{", "@",
        )
        world = full_world()
        for path in places(world):
            if isinstance(part_at(world, path), str):
                for word in words:
                    with self.subTest(path, word=word):
                        self.refuses(replaced(world, path, word))

    def test_lists_in_the_place_of_tuples(self):
        world = full_world()
        for path in places(world):
            part = part_at(world, path)
            if isinstance(part, tuple):
                with self.subTest(path):
                    self.refuses(replaced(world, path, list(part)))

    def test_things_of_any_kind_in_every_place(self):
        world = full_world()
        for path in places(world):
            for number, thing in enumerate(wrong_everywhere()):
                with self.subTest(path, thing=number):
                    self.refuses(replaced(world, path, thing))

    def test_none_in_every_place_but_parents_and_above(self):
        world = full_world()
        for path in places(world):
            if len(path) == 2 and path[1] == 0 or len(path) == 4 and path[3] == 2:
                checked(replaced(world, path, None))
            else:
                with self.subTest(path):
                    self.refuses(replaced(world, path, None))

    def test_number_in_every_place_but_those_of_put(self):
        world = full_world()
        for path in places(world):
            if isinstance(part_at(world, path), int) and len(path) > 2:
                checked(replaced(world, path, 50))
            else:
                with self.subTest(path):
                    self.refuses(replaced(world, path, 50))

    def test_word_in_every_place_but_those_of_words(self):
        world = full_world()
        for path in places(world):
            if not isinstance(part_at(world, path), str) and path[3:] != (2,):
                with self.subTest(path):
                    self.refuses(replaced(world, path, "word"))

    def test_empty_tuple_in_every_place_but_shelves_faces_rows(self):
        world = full_world()
        for path in places(world):
            if len(path) == 2 and path[1] == 1 or len(path) == 4 and path[3] in (3, 4):
                checked(replaced(world, path, ()))
            else:
                with self.subTest(path):
                    self.refuses(replaced(world, path, ()))

    def test_what_is_refused_is_as_before(self):
        world = [[None, [["class", "a", None, [], [["put", "b", 1]]]]]]
        before = copy.deepcopy(world)
        self.refuses(world)
        self.assertEqual(world, before)
        inner = {"a": [1]}
        self.refuses(world_of_file(inner))
        self.assertEqual(inner, {"a": [1]})


if __name__ == "__main__":
    unittest.main()
