"""Point 13: worlds written in lines, and read back."""

import copy
import random
import re
import unittest

from loaders.errors import NoText, NoWorld
from loaders.texts import read, shown
from samples import (
    NO_WORLDS, Plain, Prickly, full_world, one_shelf, places, random_world, replaced, ring_list, some_class, some_face,
    wrong_everywhere,
)

FULL = """\
loader
class base
- put size 7
- note made
face shape faces draw move
- need base
loader 0
class ball above base faces shape
- read size base size
- put low 0
- put high 99
- need shape
- fail worn
loader 1
loader
class base
- put size 7
- note made"""

# Names that are called like what stands ahead of names.
TRICKY_WORLD = (
    (None, (
        some_class("above", "above", ("faces", "above"), (("put", "put", 10), ("need", "need"))),
        some_class("faces", "faces"),
        some_class("class", None, ("above",)),
        some_face("face", ("loader", "faces"), (("read", "read", "note", "fail"),)),
    )),
    (0, (some_face("loader", (), (("note", "loader"), ("fail", "class"))),)),
)
TRICKY = """\
loader
class above above above faces faces above
- put put 10
- need need
class faces above faces
class class faces above
face face faces loader faces
- read read note fail
loader 0
face loader
- note loader
- fail class"""

WORD = "[a-z]{1,6}"
LOADER_LINE = re.compile("loader(?: ([0-3]))?")
FILE_LINE = re.compile(
    f"(?P<kind>class|face) (?P<name>{WORD})(?: above (?P<above>{WORD}))?(?: faces (?P<one>{WORD})(?: (?P<two>{WORD}))?)?"
)
PUT_LINE = re.compile(f"- (put) ({WORD}) (0|[1-9][0-9]?)")
ROW_LINE = re.compile(f"- (?:(need|note|fail) ({WORD})|(read) ({WORD}) ({WORD}) ({WORD}))")


def file_by_match(match):
    faces = tuple(name for name in match.group("one", "two") if name is not None)
    if match["kind"] == "face" and match["above"] is not None or len(set(faces)) < len(faces):
        return None
    return [match["kind"], match["name"], match["above"], faces, []]


def row_by_match(line):
    put = PUT_LINE.fullmatch(line)
    if put:
        return ("put", put[2], int(put[3]))
    row = ROW_LINE.fullmatch(line)
    return tuple(part for part in row.groups() if part is not None) if row else None


def world_by_lines(text):
    """The world that is written so, or None: told in another way than the program reads."""
    loaders = []
    for line in text.split("\n"):
        loader = LOADER_LINE.fullmatch(line)
        file = FILE_LINE.fullmatch(line)
        row = row_by_match(line)
        if loader:
            parent = None if loader[1] is None else int(loader[1])
            if parent is not None and parent >= len(loaders) or len(loaders) == 4:
                return None
            loaders.append([parent, []])
        elif file:
            new = file_by_match(file)
            if new is None or not loaders or len(loaders[-1][1]) == 4:
                return None
            if new[1] in [other[1] for other in loaders[-1][1]]:
                return None
            loaders[-1][1].append(new)
        elif row is None or not loaders or not loaders[-1][1] or len(loaders[-1][1][-1][4]) == 5:
            return None
        else:
            loaders[-1][1][-1][4].append(row)
    return tuple(
        (parent, tuple((kind, name, above, faces, tuple(rows)) for kind, name, above, faces, rows in files))
        for parent, files in loaders
    )


class Shown(unittest.TestCase):
    def test_line_by_line(self):
        self.assertEqual(shown(full_world()).split("\n"), FULL.split("\n"))
        self.assertEqual(shown(TRICKY_WORLD).split("\n"), TRICKY.split("\n"))

    def test_loaders(self):
        self.assertEqual(shown(((None, ()),)), "loader")
        self.assertEqual(shown(((None, ()), (None, ()))), "loader\nloader")
        self.assertEqual(shown(((None, ()), (0, ()), (1, ()), (2, ()))), "loader\nloader 0\nloader 1\nloader 2")
        self.assertEqual(shown(((None, ()), (0, ()), (0, ()), (None, ()))), "loader\nloader 0\nloader 0\nloader")

    def test_files(self):
        for file, line in (
            (some_class("a"), "class a"), (some_face("a"), "face a"), (some_class("a", "b"), "class a above b"),
            (some_class("a", None, ("c",)), "class a faces c"), (some_class("a", None, ("d", "c")), "class a faces d c"),
            (some_class("a", "b", ("c", "d")), "class a above b faces c d"), (some_face("a", ("b",)), "face a faces b"),
            (some_face("sixsix", ("b", "a")), "face sixsix faces b a"), (some_class("a", "a", ("a",)), "class a above a faces a"),
        ):
            with self.subTest(line):
                self.assertEqual(shown(one_shelf(file)), "loader\n" + line)
                self.assertEqual(read("loader\n" + line), one_shelf(file))

    def test_rows(self):
        for row, line in (
            (("put", "x", 0), "- put x 0"), (("put", "x", 9), "- put x 9"), (("put", "x", 10), "- put x 10"),
            (("put", "sixsix", 99), "- put sixsix 99"), (("read", "x", "b", "y"), "- read x b y"), (("need", "b"), "- need b"),
            (("note", "b"), "- note b"), (("fail", "b"), "- fail b"), (("need", "put"), "- need put"),
        ):
            for file, ahead in ((some_class("a", None, (), (row,)), "class a"), (some_face("a", (), (row,)), "face a")):
                with self.subTest(line, ahead=ahead):
                    self.assertEqual(shown(one_shelf(file)), f"loader\n{ahead}\n{line}")
                    self.assertEqual(read(f"loader\n{ahead}\n{line}"), one_shelf(file))

    def test_each_number(self):
        for number in range(100):
            world = one_shelf(some_class("a", None, (), (("put", "x", number),)))
            self.assertEqual(shown(world), f"loader\nclass a\n- put x {number}")
            told = read(shown(world))
            self.assertEqual(told, world)
            self.assertIs(told[0][1][0][4][0][2].__class__, int)

    def test_it_is_a_text(self):
        self.assertIs(shown(full_world()).__class__, str)

    def test_no_world(self):
        for world in NO_WORLDS + (True, False, "loader", FULL, ((None, ()), (1, ()))):
            with self.subTest(world), self.assertRaises(NoWorld):
                shown(world)

    def test_no_world_for_things_of_any_kind(self):
        for path in places(full_world()):
            for number, thing in enumerate(wrong_everywhere()):
                with self.subTest(path, thing=number), self.assertRaises(NoWorld):
                    shown(replaced(full_world(), path, thing))


class ReadBack(unittest.TestCase):
    def test_as_it_was(self):
        self.assertEqual(read(FULL), full_world())
        self.assertEqual(read(TRICKY), TRICKY_WORLD)
        for world in (
            ((None, ()),), ((None, ()),) * 4, ((None, ()), (0, ()), (1, ()), (2, ())), ((None, ()), (0, ()), (0, ()), (0, ())),
        ):
            self.assertEqual(read(shown(world)), world)

    def test_many_worlds(self):
        chance = random.Random(50)
        for number in range(300):
            world = random_world(chance, True)
            with self.subTest(world):
                self.assertEqual(read(shown(world)), world)
                self.assertEqual(world_by_lines(shown(world)), world)
                self.assertEqual(shown(read(shown(world))), shown(world))

    def test_only_tuples_words_and_numbers(self):
        def check(thing):
            if isinstance(thing, tuple):
                self.assertIs(thing.__class__, tuple)
                for part in thing:
                    check(part)
            elif thing is not None:
                self.assertIn(thing.__class__, (int, str))

        check(read(FULL))

    def test_unlike_worlds_are_written_unlike(self):
        chance = random.Random(51)
        texts = {}
        for number in range(300):
            world = random_world(chance, True)
            self.assertEqual(texts.setdefault(shown(world), world), world)


SIGNS = (
    " ", "\n", "\t", "\r", "\x0b", "\x0c", "\x1c", "\x85", "\xa0", "\u2028", "\u3000", "\0", "a", "z", "A", "\u00e9",
    "\u0430", "0", "1", "9", "\u0663", "\u00b2", "\uff11", "-", "+", "_", ".", "`", "{", "\ud800",
)
WORDS = (
    "", "loader", "class", "face", "above", "faces", "-", "put", "read", "need", "note", "fail", "base", "a", "seventy",
    "0", "1", "00", "07", "100", "-1", "+1", "1_0", "None", "()",
)
LINES = (
    "", " ", "loader", "loader 0", "loader 1", "loader 4", "class base", "class new", "face shape", "face new",
    "class", "face", "-", "- need a", "- put x 1", "- read x y z", "- need", "- put x", "- read x y", "#", "None",
)


def changed_signs(text):
    for place in range(len(text) + 1):
        for sign in SIGNS:
            yield text[:place] + sign + text[place:]
            yield text[:place] + sign + text[place + 1:]
        yield text[:place] + text[place + 1:]
        yield text[:place] + text[place:place + 2][::-1] + text[place + 2:]
        yield text[:place]
        yield text[place:]


def changed_words(text):
    lines = [line.split(" ") for line in text.split("\n")]
    for number, words in enumerate(lines):
        for place in range(len(words) + 1):
            changes = [words[:place] + words[place + 1:], words[:place] + words[place:place + 2][::-1] + words[place + 2:]]
            for word in WORDS:
                changes.append(words[:place] + [word] + words[place:])
                changes.append(words[:place] + [word] + words[place + 1:])
            for change in changes:
                yield "\n".join([" ".join(line) for line in lines[:number] + [change] + lines[number + 1:]])


def changed_lines(text):
    lines = text.split("\n")
    for place in range(len(lines) + 1):
        yield "\n".join(lines[:place] + lines[place + 1:])
        yield "\n".join(lines[:place] + lines[place:place + 1] * 2 + lines[place + 1:])
        yield "\n".join(lines[:place] + lines[place:place + 2][::-1] + lines[place + 2:])
        for line in LINES:
            yield "\n".join(lines[:place] + [line] + lines[place:])
            yield "\n".join(lines[:place] + [line] + lines[place + 1:])


class SmallChanges(unittest.TestCase):
    def check(self, texts):
        """How many are written worlds, and how many not; each is read just as it is written."""
        count = [0, 0]
        for text in sorted(set(texts)):
            wanted = world_by_lines(text)
            count[wanted is None] += 1
            try:
                told = read(text)
            except NoText:
                told = None
            if told != wanted or told is not None and shown(told) != text:
                self.fail(f"{text!r} is read as {told!r}, not as {wanted!r}")
        return count

    def test_signs(self):
        for text in (FULL, TRICKY):
            worlds, others = self.check(changed_signs(text))
            self.assertGreater(worlds, 300)
            self.assertGreater(others, 3000)

    def test_words(self):
        for text in (FULL, TRICKY):
            worlds, others = self.check(changed_words(text))
            self.assertGreater(worlds, 100)
            self.assertGreater(others, 1000)

    def test_lines(self):
        for text in (FULL, TRICKY):
            worlds, others = self.check(changed_lines(text))
            self.assertGreater(worlds, 50)
            self.assertGreater(others, 300)

    def test_many_worlds(self):
        chance = random.Random(52)
        texts = []
        for number in range(25):
            text = shown(random_world(chance, True))
            for changes in (changed_signs(text), changed_words(text), changed_lines(text)):
                texts.extend(chance.sample(list(changes), 20))
        self.check(texts)


class Refused(unittest.TestCase):
    def refuses(self, *texts):
        for text in texts:
            with self.subTest(text), self.assertRaises(NoText):
                read(text)

    def test_empty(self):
        self.refuses("", " ", "\n", "\n\n", "  ")

    def test_blanks(self):
        self.refuses(
            "loader ", " loader", "loader\n class a", "loader\nclass a ", "loader\nclass  a", "loader\n class a",
            "loader\nclass a  above b", "loader\nclass a above  b", "loader\nclass a\n-  need b", "loader\nclass a\n- need  b",
            "loader\nclass a\n - need b", "loader\nclass a\n- need b ", "loader\nclass\ta", "loader\nclass a\n-need b",
            "loader \nclass a", "loader\nloader  0",
        )

    def test_lines(self):
        self.refuses(
            "loader\n", "\nloader", "loader\n\nloader", "loader\nclass a\n", "loader\nclass a\n\n- need b", "loader\r\nclass a",
            "loader\nclass a\r", "loader\rclass a", "loader\x0bclass a", "loader\u2028class a", "loader class a",
            "loader\nclass a - need b", "Loader", "LOADER", "loader\nClass a", "loaders", "loader\nfaces a",
        )

    def test_numbers(self):
        for number in (
            "00", "01", "007", "+1", "-1", "-0", "1.0", "1e1", "0x1", "1_0", "\u0661", "\u00b2", "\uff11", "100", "999",
            "9" * 5000, "", "a", "None", "True", "1 ", " 1", "1 1",
        ):
            self.refuses(f"loader\nclass a\n- put x {number}", f"loader\nloader {number}")
        self.assertEqual(read("loader\nclass a\n- put x 99")[0][1][0][4], (("put", "x", 99),))

    def test_parents_that_are_no_loader_ahead(self):
        self.refuses(
            "loader 0", "loader 1", "loader\nloader 1", "loader\nloader 2\nloader", "loader 1\nloader", "loader\nloader 0\nloader 2",
            "loader\nloader\nloader\nloader 3", "loader\nloader None", "loader None", "loader\nloader 0 0", "loader\nloader\nloader 0 1",
        )

    def test_what_stands_too_early(self):
        self.refuses(
            "class a", "class a\nloader", "face a\nloader", "- need a", "- need a\nloader", "loader\n- need a",
            "loader\n- need a\nclass a", "loader\nclass a\nloader 0\n- need a", "class a\n- need a\nloader\nclass b",
        )

    def test_too_many(self):
        self.refuses(
            "\n".join(["loader"] * 5), "loader\nclass a\nclass b\nclass c\nclass d\nclass e",
            "loader\nclass a" + "\n- need b" * 6, "loader\nclass a faces b c d", "loader\nface a faces b c d",
        )
        read("\n".join(["loader"] * 4))
        read("loader\nclass a\nclass b\nclass c\nclass d")
        read("loader\nclass a" + "\n- need b" * 5)

    def test_like_ones(self):
        self.refuses(
            "loader\nclass a\nclass a", "loader\nclass a\nface a", "loader\nface a\nclass b\nclass a",
            "loader\nclass a faces b b", "loader\nface a faces b b",
        )
        read("loader\nclass a\nloader\nclass a")
        read("loader\nclass a above b faces b a")

    def test_a_face_with_something_above_it(self):
        self.refuses("loader\nface a above b", "loader\nface a above b faces c", "loader\nface above above above")
        self.assertEqual(read("loader\nface above faces above"), one_shelf(some_face("above", ("above",))))

    def test_nothing_behind(self):
        self.refuses(
            "loader\nclass", "loader\nface", "loader\nclass ", "loader\nclass a above", "loader\nclass a faces", "loader\nface a faces",
            "loader\nclass a above b faces", "loader\nclass a above faces b", "loader\nclass above above", "loader\nclass faces faces",
            "loader\nclass a above ", "loader\nclass a faces ", "loader\nclass a\n-", "loader\nclass a\n- ", "loader\nclass a\n- need",
            "loader\nclass a\n- put", "loader\nclass a\n- put x", "loader\nclass a\n- put 1", "loader\nclass a\n- read x y",
        )

    def test_more_behind(self):
        self.refuses(
            "loader\nclass a b", "loader\nclass a above b c", "loader\nclass a above b above c", "loader\nclass a faces b above c",
            "loader\nclass a faces b faces c", "loader\nclass a\n- need b c", "loader\nclass a\n- put x 1 2",
            "loader\nclass a\n- read x y z a", "loader\nclass a\n- note a b", "loader a", "loader\nclass a\n- - need b",
        )

    def test_words_that_are_none(self):
        for word in ("", "seventy", "A", "a1", "a_b", "a-b", "\u00e9", "\u00df", "a.", "None", "1"):
            self.refuses(
                f"loader\nclass {word}", f"loader\nclass a above {word}", f"loader\nclass a faces {word}",
                f"loader\nclass a faces b {word}", f"loader\nclass a\n- need {word}", f"loader\nclass a\n- put {word} 1",
                f"loader\nclass a\n- read {word} b c", f"loader\nclass a\n- read b {word} c", f"loader\nclass a\n- read b c {word}",
                f"loader\nclass a\n- {word} b", f"loader\n{word} a",
            )

    def test_names_called_like_what_stands_ahead(self):
        for text, world in (
            ("loader\nclass above", one_shelf(some_class("above"))),
            ("loader\nclass a above above", one_shelf(some_class("a", "above"))),
            ("loader\nclass a above faces", one_shelf(some_class("a", "faces"))),
            ("loader\nclass a faces above", one_shelf(some_class("a", None, ("above",)))),
            ("loader\nclass a faces above b", one_shelf(some_class("a", None, ("above", "b")))),
            ("loader\nclass a faces faces", one_shelf(some_class("a", None, ("faces",)))),
            ("loader\nclass a faces b faces", one_shelf(some_class("a", None, ("b", "faces")))),
            ("loader\nclass a above faces faces above", one_shelf(some_class("a", "faces", ("above",)))),
            ("loader\nclass loader", one_shelf(some_class("loader"))),
            ("loader\nclass class above face", one_shelf(some_class("class", "face"))),
            ("loader\nface face faces class", one_shelf(some_face("face", ("class",)))),
            ("loader\nclass a\n- note loader", one_shelf(some_class("a", None, (), (("note", "loader"),)))),
        ):
            with self.subTest(text):
                self.assertEqual(read(text), world)
                self.assertEqual(shown(world), text)

    def test_things_that_are_no_text(self):
        things = wrong_everywhere() + [
            None, 0, 1, full_world(), ("loader",), ["loader"], [FULL], FULL.split("\n"), b"loader", bytearray(b"loader"),
            {"loader": 1}, Plain(), Prickly(), ring_list(), str, iter("loader"),
        ]
        for number, thing in enumerate(things):
            with self.subTest(number), self.assertRaises(NoText):
                read(thing)

    def test_long_ones(self):
        self.refuses(
            "loader\n" * 3000, "loader " * 3000, "a" * 100000, " " * 3000, "\n" * 3000, "loader\nclass a" + " faces b" * 3000,
            "loader\nclass a" + "\n- need b" * 3000, "loader" + "\nclass a" * 3000, "loader\nclass a above " + "b" * 3000,
        )


class NothingChangedOrKept(unittest.TestCase):
    def test_what_was_handed_in_is_as_before(self):
        world = full_world()
        before = copy.deepcopy(world)
        shown(world)
        self.assertEqual(world, before)
        things = [["loader"], {"loader": []}]
        for thing in things:
            with self.assertRaises(NoText):
                read(thing)
        self.assertEqual(things, [["loader"], {"loader": []}])

    def test_equal_things_give_equal_answers(self):
        self.assertEqual(shown(full_world()), shown(copy.deepcopy(full_world())))
        self.assertEqual(read("".join(FULL)), read(FULL))


if __name__ == "__main__":
    unittest.main()
