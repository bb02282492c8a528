"""Halls in which hands do their steps alone, by an order, or in turns."""

from loaders.errors import NoOrder
from loaders.files import is_number
from loaders.hall import Hall

MOST_STEPS = 600


# A class ends once, and the step that ends it tells it; needs end with another word.
def alone(world, some):
    hall = Hall(world, (some,))
    ended = []
    while not hall.is_idle(0):
        told = hall.step(0)
        if told[0] in ("ready", "failed"):
            ended.append(told[1])
    return (hall.told(0), ended, hall.notes())


def is_order(thing, hands):
    if not isinstance(thing, list) or len(thing) > MOST_STEPS:
        return False
    return all([is_number(number, 0, hands - 1) for number in thing])


def run(world, needs, order):
    hall = Hall(world, needs)
    if not is_order(order, len(needs)):
        raise NoOrder(f"an order is a list of up to {MOST_STEPS} numbers of hands")
    return (hall, [hall.step(number) for number in order])


# Steps that tell idle or waits change nothing: once each hand did one of these since the last other step,
# all further ones would do the same.
def in_turns(world, needs):
    hall = Hall(world, needs)
    order = []
    quiet = 0
    while quiet < len(needs):
        number = len(order) % len(needs)
        told = hall.step(number)
        order.append(number)
        quiet = quiet + 1 if told[0] in ("idle", "waits") else 0
    return (hall, order)
