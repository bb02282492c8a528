"""What is above a class: whether it can be linked, and of what it is a kind."""

from loaders.errors import NotLinked
from loaders.finding import checked_class, class_above, file_of, found
from loaders.ways import reached


# Tuples (name, kind that its file must have), in the order in which they are looked at.
def names_above(file):
    faces = [(name, "face") for name in file[3]]
    return faces if file[2] is None else [(file[2], "class")] + faces


# Below are the classes of which what is above them is still being looked at. What is sound was looked
# at to its end without a fault: it leads to none of those below, so it needs no second look.
def fault_of_name(world, loader, name, kind, below, sound):
    thing = found(world, loader, name)
    if thing is None:
        return ("lacks", name)
    if file_of(world, thing)[0] != kind:
        return ("kind", name)
    if thing in below:
        return ("ring", name)
    return None if thing in sound else fault_above(world, thing, below, sound)


def fault_above(world, thing, below, sound):
    for name, kind in names_above(file_of(world, thing)):
        why = fault_of_name(world, thing[0], name, kind, below + [thing], sound)
        if why is not None:
            return why
    sound[thing] = True
    return None


# The world and the class were checked by whoever calls this.
def fault(world, thing):
    return fault_above(world, thing, [], {})


def why_not(world, thing):
    return fault(world, checked_class(world, thing))


def linked(world, thing):
    why = why_not(world, thing)
    if why is not None:
        raise NotLinked(why)
    return thing


# The class can be linked, so all that its file names is found, and no ring is met.
def all_above(world, thing):
    return [found(world, thing[0], name) for name, kind in names_above(file_of(world, thing))]


def supers(world, thing):
    line = []
    at = linked(world, thing)
    while at is not None:
        line.append(at)
        at = class_above(world, at)
    return line


def kinds(world, thing):
    return reached(linked(world, thing), lambda at: all_above(world, at))


def is_kind(world, one, other):
    above = kinds(world, one)
    return checked_class(world, other) in above


def common(world, one, other):
    first = supers(world, one)
    second = supers(world, other)
    for thing in first:
        if thing in second:
            return thing
    return None
