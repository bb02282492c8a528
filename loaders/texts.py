"""Worlds written in lines, and read back."""

from loaders.errors import NoText, NoWorld
from loaders.files import checked


def loader_words(parent):
    return ["loader"] if parent is None else ["loader", str(parent)]


def file_words(file):
    words = [file[0], file[1]]
    if file[2] is not None:
        words.extend(["above", file[2]])
    if file[3]:
        words.extend(["faces"] + list(file[3]))
    return words


def row_words(row):
    return ["-"] + [str(part) for part in row]


def shown(world):
    lines = []
    for parent, shelf in checked(world):
        lines.append(loader_words(parent))
        for file in shelf:
            lines.append(file_words(file))
            lines.extend([row_words(row) for row in file[4]])
    return "\n".join([" ".join(words) for words in lines])


# int would take other digits, blanks and signs, too. No number of a world has more than two digits.
def number_read(word):
    for number in range(100):
        if str(number) == word:
            return number
    return None


# Lists of lines, each begun by a line that begins one; the first list may lack such a line.
def grouped(lines, begins):
    groups = []
    for words in lines:
        if begins(words) or not groups:
            groups.append([])
        groups[-1].append(words)
    return groups


# This one and the next two may make anything of lines that are wrong: it is no world then, or one that is
# written otherwise, and both are refused at the end.
def row_read(words):
    row = words[1:]
    if row[:1] == ["put"]:
        return tuple(row[:-1] + [number_read(row[-1])])
    return tuple(row)


def file_read(lines):
    words = lines[0]
    behind = words[2:]
    above = None
    if len(behind) > 1 and behind[0] == "above":
        above = behind[1]
        behind = behind[2:]
    faces = tuple(behind[1:]) if behind[:1] == ["faces"] else ()
    return tuple(words[:2]) + (above, faces, tuple([row_read(row) for row in lines[1:]]))


def loader_read(lines):
    parent = number_read(lines[0][1]) if len(lines[0]) > 1 else None
    files = grouped(lines[1:], lambda words: words[0] != "-")
    return (parent, tuple([file_read(group) for group in files]))


def is_written_so(world, text):
    try:
        return shown(world) == text
    except NoWorld:
        return False


def read(text):
    if not isinstance(text, str):
        raise NoText("this is no text")
    lines = [line.split(" ") for line in text.split("\n")]
    groups = grouped(lines, lambda words: words[0] == "loader")
    world = tuple([loader_read(group) for group in groups])
    if not is_written_so(world, text):
        raise NoText("no world is written so")
    return world
