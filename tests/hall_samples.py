"""What several tests of halls use."""

from loaders.finding import classes
from loaders.hall import Hall, woken
from samples import NAMES, one_shelf, places, replaced, some_class, wrong_everywhere

NEW = ("new",)
READY = ("ready",)
ENDS = ("ends",)
IDLE = ("idle",)


def until_idle(hall, number):
    """What a hand tells up to its first idle, which is in it."""
    told = []
    while IDLE not in told:
        told.append(hall.step(number))
        if len(told) > 500:
            raise RuntimeError("a hand never is idle")
    return told


def view(hall, world, hands):
    """All that a hall tells of itself."""
    things = classes(world)
    fields = sorted({row[1] for loader in world for file in loader[1] for row in file[4]} | {"none"})
    return (
        [(hall.told(hand), hall.is_idle(hand), hall.waits_for(hand)) for hand in range(hands)],
        [(thing, hall.state(thing)) for thing in things],
        [(thing, field, hall.field(thing, field)) for thing in things for field in fields],
        hall.notes(), hall.stuck(), hall.saved(),
    )


def all_idle(hall, hands):
    return all([hall.is_idle(hand) for hand in range(hands)])


def all_halls(world, needs):
    """The list of what the halls to which some order leads save, each once."""
    first = Hall(world, needs).saved()
    seen = {first: True}
    waiting = [first]
    while waiting:
        saved = waiting.pop()
        for hand in range(len(needs)):
            hall = woken(saved)
            hall.step(hand)
            if hall.saved() not in seen:
                seen[hall.saved()] = True
                waiting.append(hall.saved())
    return list(seen)


def random_needs(chance, world, hands, least=1, most=2):
    """The chance is a random.Random with a seed; least and most tell how many needs a hand has."""
    names = [name for loader, name in classes(world)] * 4 + [NAMES[0]]
    return tuple(
        tuple((chance.randrange(len(world)), chance.choice(names)) for need in range(chance.randrange(least, most + 1)))
        for hand in range(hands)
    )


def crossed_world():
    """a needs b and b needs a: two hands that begin one each wait for one another."""
    return one_shelf(
        some_class("a", None, (), (("need", "b"), ("note", "one"))),
        some_class("b", None, (), (("put", "x", 3), ("need", "a"), ("note", "two"))),
        some_class("c", None, (), (("need", "a"),)),
    )


def crossed_needs():
    return (((0, "a"),), ((0, "b"),))


def wrong_needs():
    """Made anew each time; none of these are needs, in a world of one loader."""
    # One hand without needs is right.
    wrong = [thing for thing in wrong_everywhere() if thing.__class__ is not tuple or thing != ((),)]
    wrong.extend([None, (), [], crossed_needs()[0], list(crossed_needs()), crossed_needs() * 2])
    for path in places(crossed_needs())[1:]:
        wrong.extend(replaced(crossed_needs(), path, thing) for thing in wrong_everywhere() + [None])
    return wrong


def turning_world():
    """Each of the three needs the next one."""
    return one_shelf(*(some_class(name, None, (), (("need", other),)) for name, other in ("ab", "bc", "ca")))


def turning_needs():
    return (((0, "a"),), ((0, "b"),), ((0, "c"),))
