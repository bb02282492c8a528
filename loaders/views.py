"""Worlds like another one, but with a file more or fewer."""

from loaders.errors import NoFile
from loaders.files import is_file, is_shelf, is_word, names_on
from loaders.finding import checked_loader, shadowed


# The loader was checked by whoever calls this.
def with_shelf(world, loader, shelf):
    return world[:loader] + ((world[loader][0], shelf),) + world[loader + 1:]


def with_file(world, loader, file):
    shelf = world[checked_loader(world, loader)][1]
    if not is_file(file):
        raise NoFile("what is to be put on the shelf is no file")
    names = names_on(shelf)
    place = names.index(file[1]) if file[1] in names else len(names)
    fuller = shelf[:place] + (file,) + shelf[place + 1:]
    if not is_shelf(fuller):
        raise NoFile("the shelf is full")
    return with_shelf(world, loader, fuller)


def without_file(world, loader, name):
    shelf = world[checked_loader(world, loader)][1]
    if not is_word(name) or name not in names_on(shelf):
        raise NoFile("the shelf has no file of this name")
    return with_shelf(world, loader, tuple([file for file in shelf if file[1] != name]))


# What hides a file stays, or is hidden itself by a file that stays: so the whole list can be taken away.
def tidy(world):
    rest = world
    for loader, name in shadowed(world):
        rest = without_file(rest, loader, name)
    return rest
