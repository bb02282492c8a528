"""What the set-up of a class may come to need, and rings there."""

from loaders.finding import checked_class, classes, file_of, found
from loaders.kinds import fault
from loaders.ways import reached, way_back


# The class above is needed ahead of all rows, in the very way in which a row needs one.
def steps_of(world, thing):
    file = file_of(world, thing)
    rows = list(file[4])
    return rows if file[2] is None else [("need", file[2])] + rows


# The name of the class that a row needs or reads of, or None.
def name_needed(row):
    if row[0] == "need":
        return row[1]
    return row[2] if row[0] == "read" else None


# The world and the class were checked by whoever calls this, and the next one.
def arrows_from(world, thing):
    if fault(world, thing) is not None:
        return []
    told = {}
    for row in steps_of(world, thing):
        name = name_needed(row)
        other = None if name is None else found(world, thing[0], name)
        if other is not None:
            told[other] = True
    return list(told)


def ring_at(world, thing):
    return way_back(thing, lambda at: arrows_from(world, at))


def arrows(world, thing):
    return arrows_from(world, checked_class(world, thing))


def needed(world, thing):
    return reached(checked_class(world, thing), lambda at: arrows_from(world, at))


def ring(world, thing):
    for at in needed(world, thing):
        way = ring_at(world, at)
        if way is not None:
            return way
    return None


def all_rings(world):
    return [thing for thing in classes(world) if ring_at(world, thing) is not None]
