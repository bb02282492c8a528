"""Worlds and things that several tests hand in."""


def some_class(name, above=None, faces=(), rows=()):
    return ("class", name, above, faces, rows)


def some_face(name, faces=(), rows=()):
    return ("face", name, None, faces, rows)


def world_of_file(file):
    return ((None, (file,)),)


def world_of_row(row):
    return world_of_file(some_class("a", None, (), (row,)))


def world_of_names(*loaders):
    """Each loader is told as (parent, names), names being a text with blanks between."""
    return tuple(
        (parent, tuple(some_class(name) for name in names.split())) for parent, names in loaders
    )


def full_world():
    """Made anew each time; holds every kind of row and both kinds of file."""
    base = some_class("base", None, (), (("put", "size", 7), ("note", "made")))
    shape = some_face("shape", ("draw", "move"), (("need", "base"),))
    ball = some_class("ball", "base", ("shape",), (
        ("read", "size", "base", "size"),
        ("put", "low", 0),
        ("put", "high", 99),
        ("need", "shape"),
        ("fail", "worn"),
    ))
    return ((None, (base, shape)), (0, (ball,)), (1, ()), (None, (base,)))


def places(thing):
    """The paths to all that stands in a thing of tuples, the thing itself first."""
    paths = [()]
    if isinstance(thing, tuple):
        for place, part in enumerate(thing):
            paths.extend((place,) + path for path in places(part))
    return paths


def part_at(thing, path):
    for place in path:
        thing = thing[place]
    return thing


def replaced(thing, path, new):
    if not path:
        return new
    part = replaced(thing[path[0]], path[1:], new)
    return thing[:path[0]] + (part,) + thing[path[0] + 1:]


class Plain:
    pass


class Prickly:
    """Can't be compared, hashed or shown: a check that does so ahead of asking its kind breaks."""

    __hash__ = None

    def __eq__(self, other):
        raise RuntimeError("compared")

    def __lt__(self, other):
        raise RuntimeError("compared")

    def __bool__(self):
        raise RuntimeError("asked whether it is true")

    def __len__(self):
        raise RuntimeError("measured")

    def __repr__(self):
        raise RuntimeError("shown")


def ring_list():
    ring = []
    ring.append(ring)
    return ring


def wrong_everywhere():
    """Made anew each time; none of these may stand in any place of a world."""
    return [
        True, False, -1, 100, 10 ** 5000, -10 ** 5000,
        "", "seventy", "Word", "WORD", "a b", "a-b", "a1", "a\n", "\u00e9t\u00e9", "\u00df", "\u0430", "\ud800",
        [], ["a"], [None, []], ring_list(), {}, {"a": 1}, set(), frozenset(("a",)),
        b"a", range(2), Plain(), Plain, len, Prickly(),
        (None,), (True,), ([],), ((),), (None, None, None, None, None, None), ("a", 1),
    ]
