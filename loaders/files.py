"""What counts as a word, a row, a file, a shelf and a world.

Things of any kind come in here, so each check asks for the kind of a thing before it compares or
hashes it.
"""

from loaders.errors import NoWorld

LETTERS = "abcdefghijklmnopqrstuvwxyz"
# How many words stand behind the first one. A put row has a number too, so it is not here.
WORDS_BEHIND = {"read": 3, "need": 1, "note": 1, "fail": 1}


# True and False are ints to Python, but no whole numbers here.
def is_number(thing, least, most):
    if not isinstance(thing, int) or isinstance(thing, bool):
        return False
    return least <= thing <= most


def is_tuple(thing, least, most):
    return isinstance(thing, tuple) and least <= len(thing) <= most


# islower and its like know letters beyond z, so each letter is looked up.
def is_word(thing):
    if not isinstance(thing, str) or not 1 <= len(thing) <= 6:
        return False
    return all([letter in LETTERS for letter in thing])


def are_words(things):
    return all([is_word(thing) for thing in things])


def are_unlike(words):
    return len(set(words)) == len(words)


def is_row(thing):
    if not is_tuple(thing, 2, 4) or not is_word(thing[0]):
        return False
    if thing[0] == "put":
        return len(thing) == 3 and is_word(thing[1]) and is_number(thing[2], 0, 99)
    return WORDS_BEHIND.get(thing[0]) == len(thing) - 1 and are_words(thing[1:])


def fits_above(kind, above):
    if above is None:
        return kind in ("class", "face")
    return kind == "class" and is_word(above)


def are_faces(thing):
    return is_tuple(thing, 0, 2) and are_words(thing) and are_unlike(thing)


def are_rows(thing):
    return is_tuple(thing, 0, 5) and all([is_row(row) for row in thing])


def is_file(thing):
    if not is_tuple(thing, 5, 5) or not are_words(thing[:2]):
        return False
    return fits_above(thing[0], thing[2]) and are_faces(thing[3]) and are_rows(thing[4])


def names_on(shelf):
    return [file[1] for file in shelf]


def is_shelf(thing):
    if not is_tuple(thing, 0, 4) or not all([is_file(file) for file in thing]):
        return False
    return are_unlike(names_on(thing))


# A parent stands ahead of its loader, so no loader can come to stand above itself.
def is_loader(thing, place):
    if not is_tuple(thing, 2, 2):
        return False
    return (thing[0] is None or is_number(thing[0], 0, place - 1)) and is_shelf(thing[1])


def checked(world):
    if not is_tuple(world, 1, 4):
        raise NoWorld("a world is a tuple of 1 to 4 loaders")
    for place, loader in enumerate(world):
        if not is_loader(loader, place):
            raise NoWorld(f"what stands as loader {place} is none")
    return world
