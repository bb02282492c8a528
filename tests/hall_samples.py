"""What several tests of halls use."""

from loaders.finding import classes
from samples import one_shelf, some_class

NEW = ("new",)
READY = ("ready",)
ENDS = ("ends",)
IDLE = ("idle",)


def until_idle(hall, number):
    """What a hand tells up to its first idle, which is in it."""
    told = []
    while IDLE not in told:
        told.append(hall.step(number))
        if len(told) > 500:
            raise RuntimeError("a hand never is idle")
    return told


def view(hall, world, hands):
    """All that a hall tells of itself."""
    things = classes(world)
    fields = sorted({row[1] for loader in world for file in loader[1] for row in file[4]} | {"none"})
    return (
        [(hall.told(hand), hall.is_idle(hand), hall.waits_for(hand)) for hand in range(hands)],
        [(thing, hall.state(thing)) for thing in things],
        [(thing, field, hall.field(thing, field)) for thing in things for field in fields],
        hall.notes(), hall.stuck(), hall.saved(),
    )


def crossed_world():
    """a needs b and b needs a: two hands that begin one each wait for one another."""
    return one_shelf(
        some_class("a", None, (), (("need", "b"), ("note", "one"))),
        some_class("b", None, (), (("put", "x", 3), ("need", "a"), ("note", "two"))),
        some_class("c", None, (), (("need", "a"),)),
    )


def crossed_needs():
    return (((0, "a"),), ((0, "b"),))


def turning_world():
    """Each of the three needs the next one."""
    return one_shelf(*(some_class(name, None, (), (("need", other),)) for name, other in ("ab", "bc", "ca")))


def turning_needs():
    return (((0, "a"),), ((0, "b"),), ((0, "c"),))
