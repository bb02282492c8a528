"""What a hand does in one step, and what it tells of it."""

from loaders.finding import found
from loaders.hands import Setup
from loaders.kinds import fault
from loaders.needs import name_needed, steps_of


# Only classes that are no longer new are kept in a hall's states.
def state_in(hall, thing):
    return hall.states.get(thing, ("new",))


def fails(hall, hand, thing, why):
    hall.states[thing] = ("failed", why)
    hand.reason = why
    return ("failed", thing)


def last_fails(hall, hand, why):
    return fails(hall, hand, hand.work.pop().thing, why)


def ends(hand, news):
    hand.heard.append(news)
    hand.goal = None
    hand.left = hand.left[1:]
    return ("ends",)


# One class a step fails, so the reason stays until the need itself has ended.
def passes_on(hall, hand):
    if hand.work:
        return last_fails(hall, hand, hand.reason)
    why = hand.reason
    hand.reason = None
    return ends(hand, ("failed", hand.goal, why))


def begins(hall, number, thing):
    why = fault(hall.world, thing)
    if why is not None:
        return fails(hall, hall.hands[number], thing, (why[0], thing, why[1]))
    hall.states[thing] = ("work", number)
    hall.hands[number].work.append(Setup(thing, 0, None))
    return ("begin", thing)


def meets(hall, number):
    hand = hall.hands[number]
    thing = hand.want
    state = state_in(hall, thing)
    if state[0] == "work" and state[1] != number:
        return ("waits", thing)
    hand.want = None
    if state[0] == "new":
        return begins(hall, number, thing)
    if state[0] == "failed":
        hand.reason = state[1]
        return ("dead", thing)
    return ("known", thing)


def asks(hall, hand, name):
    last = hand.work[-1]
    thing = found(hall.world, last.thing[0], name)
    if thing is None:
        return last_fails(hall, hand, ("lacks", last.thing, name))
    last.asked = thing
    hand.want = thing
    return ("asks", thing)


def does(hall, setup, row):
    thing = setup.thing
    if row[0] == "put":
        hall.fields[(thing, row[1])] = row[2]
    if row[0] == "read":
        hall.fields[(thing, row[1])] = hall.fields.get((setup.asked, row[3]), 0)
    if row[0] == "note":
        hall.noted.append((thing, row[1]))
    setup.done = setup.done + 1
    setup.asked = None
    return ("row", thing)


def goes_on(hall, hand):
    last = hand.work[-1]
    steps = steps_of(hall.world, last.thing)
    if last.done == len(steps):
        hall.states[last.thing] = ("ready",)
        return ("ready", hand.work.pop().thing)
    row = steps[last.done]
    if row[0] == "fail":
        return last_fails(hall, hand, ("fail", last.thing, row[1]))
    name = name_needed(row)
    if name is not None and last.asked is None:
        return asks(hall, hand, name)
    return does(hall, last, row)


def turns(hall, hand):
    if hand.goal is not None:
        return ends(hand, ("ready", hand.goal))
    if not hand.left:
        return ("idle",)
    need = hand.left[0]
    thing = found(hall.world, need[0], need[1])
    if thing is None:
        return ends(hand, ("lacks", need[0], need[1]))
    hand.goal = thing
    hand.want = thing
    return ("asks", thing)


def step_of(hall, number):
    hand = hall.hands[number]
    if hand.reason is not None:
        return passes_on(hall, hand)
    if hand.want is not None:
        return meets(hall, number)
    if hand.work:
        return goes_on(hall, hand)
    return turns(hall, hand)
