"""How a loader finds a name, parents first, and which files are never found.

Errors don't show what was handed in: not everything can be shown (numbers of very many digits).
"""

from loaders.errors import NoClass, NoLoader
from loaders.files import checked, is_number, is_tuple, is_word, names_on


def checked_loader(world, loader):
    if not is_number(loader, 0, len(checked(world)) - 1):
        raise NoLoader("this world has no such loader")
    return loader


# The world and the loader were checked by whoever calls this.
def line_to(world, loader):
    line = []
    at = loader
    while at is not None:
        line.append(at)
        at = world[at][0]
    return list(reversed(line))


# The class, or None; all was checked by whoever calls this.
def found(world, loader, name):
    for number in line_to(world, loader):
        if name in names_on(world[number][1]):
            return (number, name)
    return None


def asked(world, loader):
    return line_to(world, checked_loader(world, loader))


def find(world, loader, name):
    checked_loader(world, loader)
    thing = found(world, loader, name) if is_word(name) else None
    if thing is None:
        raise NoClass("no loader that is asked has a file of this name")
    return thing


# The loader and name of each file, the never found ones too.
def filed(world):
    things = []
    for number, loader in enumerate(world):
        things.extend([(number, name) for name in names_on(loader[1])])
    return sorted(things)


# Its own loader asks itself last: if even that one finds another file, all below it do, too.
def is_found(world, thing):
    return found(world, thing[0], thing[1]) == thing


def classes(world):
    return [thing for thing in filed(checked(world)) if is_found(world, thing)]


def shadowed(world):
    return [thing for thing in filed(checked(world)) if not is_found(world, thing)]


# The kind of each part is asked ahead of any comparing: (False, name) would equal (0, name).
def is_class(world, thing):
    if not is_tuple(thing, 2, 2) or not is_number(thing[0], 0, len(world) - 1):
        return False
    return is_word(thing[1]) and is_found(world, thing)


# The world was checked by whoever calls this.
def class_in(world, thing):
    if not is_class(world, thing):
        raise NoClass("this world has no such class")
    return thing


def checked_class(world, thing):
    return class_in(checked(world), thing)


def file_of(world, thing):
    shelf = world[thing[0]][1]
    return shelf[names_on(shelf).index(thing[1])]


# None for a class whose file names nothing above it, and where that name is not found.
def class_above(world, thing):
    above = file_of(world, thing)[2]
    return None if above is None else found(world, thing[0], above)
