"""Worlds and things that several tests hand in."""

NO_WORLDS = ((), [], None, 1, "world", {}, ((0, ()),), ((None, ()),) * 5, [(None, ())])


def some_class(name, above=None, faces=(), rows=()):
    return ("class", name, above, faces, rows)


def some_face(name, faces=(), rows=()):
    return ("face", name, None, faces, rows)


def one_shelf(*files):
    return ((None, files),)


def world_of_file(file):
    return one_shelf(file)


def world_of_row(row):
    return world_of_file(some_class("a", None, (), (row,)))


def world_of_names(*loaders):
    """Each loader is told as (parent, names), names being a text with blanks between."""
    return tuple(
        (parent, tuple(some_class(name) for name in names.split())) for parent, names in loaders
    )


def full_world():
    """Made anew each time; holds every kind of row and both kinds of file."""
    base = some_class("base", None, (), (("put", "size", 7), ("note", "made")))
    shape = some_face("shape", ("draw", "move"), (("need", "base"),))
    ball = some_class("ball", "base", ("shape",), (
        ("read", "size", "base", "size"),
        ("put", "low", 0),
        ("put", "high", 99),
        ("need", "shape"),
        ("fail", "worn"),
    ))
    return ((None, (base, shape)), (0, (ball,)), (1, ()), (None, (base,)))


def places(thing):
    """The paths to all that stands in a thing of tuples, the thing itself first."""
    paths = [()]
    if isinstance(thing, tuple):
        for place, part in enumerate(thing):
            paths.extend((place,) + path for path in places(part))
    return paths


def part_at(thing, path):
    for place in path:
        thing = thing[place]
    return thing


def replaced(thing, path, new):
    if not path:
        return new
    part = replaced(thing[path[0]], path[1:], new)
    return thing[:path[0]] + (part,) + thing[path[0] + 1:]


class Plain:
    pass


class Prickly:
    """Can't be compared, hashed or shown: a check that does so ahead of asking its kind breaks."""

    __hash__ = None

    def __eq__(self, other):
        raise RuntimeError("compared")

    def __lt__(self, other):
        raise RuntimeError("compared")

    def __bool__(self):
        raise RuntimeError("asked whether it is true")

    def __len__(self):
        raise RuntimeError("measured")

    def __repr__(self):
        raise RuntimeError("shown")


def ring_list():
    ring = []
    ring.append(ring)
    return ring


def wrong_everywhere():
    """Made anew each time; none of these may stand in any place of a world."""
    return [
        True, False, -1, 100, 10 ** 5000, -10 ** 5000,
        "", "seventy", "Word", "WORD", "a b", "a-b", "a1", "a\n", "\u00e9t\u00e9", "\u00df", "\u0430", "\ud800",
        [], ["a"], [None, []], ring_list(), {}, {"a": 1}, set(), frozenset(("a",)),
        b"a", range(2), Plain(), Plain, len, Prickly(),
        (None,), (True,), ([],), ((),), (None, None, None, None, None, None), ("a", 1),
    ]


def check_new_lists(case, told):
    """What told tells is a list, not empty, and one that is changed changes no later one."""
    first = told()
    case.assertIsInstance(first, list)
    kept = list(first)
    first.append("more")
    first[0] = "other"
    case.assertEqual(told(), kept)
    first.clear()
    case.assertEqual(told(), kept)
    case.assertIsNot(told(), told())


def no_classes(world, thing):
    """Made anew each time; none of these is a class of the world. The thing is one."""
    wrong = wrong_everywhere()
    wrong.extend(replaced(thing, (place,), part) for place in (0, 1) for part in wrong_everywhere())
    wrong.extend([
        None, thing[0], thing[1], list(thing), thing + (0,), thing[:1], (), (thing,), (thing[1], thing[0]),
        (len(world), thing[1]), (-1, thing[1]), (None, thing[1]), (thing[0], "none"), (thing[0], None),
    ])
    return wrong


NAMES = "abcde"
FIELDS = "xy"


def random_row(chance, names):
    kind = chance.choice(("put", "read", "read", "need", "need", "need", "note", "fail"))
    field = chance.choice(FIELDS)
    if kind == "put":
        return (kind, field, chance.randrange(1, 100))
    if kind == "read":
        return (kind, field, chance.choice(names), chance.choice(FIELDS))
    if kind == "need":
        return (kind, chance.choice(names))
    return (kind, chance.choice(("one", "two"))) if kind == "note" or chance.random() < 0.3 else ("note", "three")


def random_file(chance, name, names):
    kind = chance.choice(("class", "class", "face"))
    above = chance.choice(names) if names and kind == "class" and chance.random() < 0.4 else None
    faces = tuple(chance.sample(names, min(len(names), chance.choice((0, 0, 0, 1, 2)))))
    rows = tuple(random_row(chance, names) for number in range(chance.randrange(6))) if names else (("put", "x", 9),)
    return (kind, name, above, faces, rows)


def random_world(chance, rings):
    """The chance is a random.Random with a seed. Without rings, files name only names ahead of their own."""
    loaders = []
    for number in range(chance.randrange(1, 5)):
        parent = chance.choice([None] + 2 * list(range(number)))
        shelf = [
            random_file(chance, name, NAMES + "n" if rings else NAMES[:NAMES.index(name)])
            for name in chance.sample(NAMES, chance.randrange(5))
        ]
        loaders.append((parent, tuple(shelf)))
    return tuple(loaders)


def needy_world(chance):
    """A world of classes that need and read of one another, so that hands are often stuck."""
    names = NAMES[:chance.randrange(2, 5)]
    files = []
    for name in names:
        other = chance.choice(names.replace(name, ""))
        rows = [("read", "x", other, "x") if chance.random() < 0.5 else ("need", other)]
        rows.insert(chance.randrange(2), ("put", "x", chance.randrange(3)))
        if chance.random() < 0.2:
            rows.append(("fail", "worn"))
        files.append(some_class(name, None, (), tuple(rows)))
    return one_shelf(*files)
