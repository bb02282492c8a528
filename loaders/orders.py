"""All that can come of a hall, in whatever order its hands do their steps."""

from loaders.errors import TooMany
from loaders.hall import Hall, what_became, woken

MOST_HALLS = 400


# Each hall that comes, saved, with a shortest order that leads to it; shorter orders come first, and a hall
# that is enough ends the walk. What steps that change nothing lead to is always there already.
def halls_with_orders(world, needs, is_enough):
    first = Hall(world, needs).saved()
    orders = {first: []}
    waiting = [first]
    while waiting:
        before = waiting.pop(0)
        for number in range(len(needs)):
            hall = woken(before)
            hall.step(number)
            after = hall.saved()
            if after not in orders:
                orders[after] = orders[before] + [number]
                waiting.append(after)
                if is_enough(hall):
                    return orders
        if len(orders) > MOST_HALLS:
            raise TooMany(f"more than {MOST_HALLS} halls come")
    return orders


# The walk ends with the first stuck hall, so that only the last one can be stuck.
def sticks(world, needs):
    orders = halls_with_orders(world, needs, lambda hall: bool(hall.stuck()))
    last = list(orders)[-1]
    return orders[last] if woken(last).stuck() else None


def ends(world, needs):
    told = {}
    for saved in halls_with_orders(world, needs, lambda hall: False):
        hall = woken(saved)
        if all([hall.is_idle(number) for number in range(len(needs))]):
            told[what_became(hall)] = True
    return list(told)
