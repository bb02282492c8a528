"""A hall: a world, and hands that set its classes up, each class once."""

from loaders.errors import NoHand, NoNeeds
from loaders.files import checked, is_number, is_word
from loaders.finding import class_in
from loaders.hands import Hand, are_needs, saved_hand, woken_hand
from loaders.steps import state_in, step_of


class Hall:
    def __init__(self, world, needs):
        if not are_needs(checked(world), needs):
            raise NoNeeds("needs are a tuple of 1 to 3 tuples of 0 to 4 tuples (loader, name)")
        self.world = world
        self.hands = [Hand(some) for some in needs]
        self.states = {}
        self.fields = {}
        self.noted = []

    def step(self, number):
        return step_of(self, number_in(self, number))

    def told(self, number):
        return list(self.hands[number_in(self, number)].heard)

    def is_idle(self, number):
        return not self.hands[number_in(self, number)].left

    def waits_for(self, number):
        return other_at_work(self, number_in(self, number))

    def state(self, thing):
        return state_in(self, class_in(self.world, thing))

    # What is no word is no field that a row could have given a number; it need not be hashable.
    def field(self, thing, name):
        at = class_in(self.world, thing)
        return self.fields.get((at, name), 0) if is_word(name) else 0

    def notes(self):
        return list(self.noted)

    def stuck(self):
        return [number for number in range(len(self.hands)) if is_stuck(self, number)]

    def saved(self):
        hands = tuple([saved_hand(hand) for hand in self.hands])
        became = what_became(self)
        return (self.world, hands, became[0], became[1], tuple(self.noted))


def number_in(hall, number):
    if not is_number(number, 0, len(hall.hands) - 1):
        raise NoHand("this hall has no such hand")
    return number


def other_at_work(hall, number):
    thing = hall.hands[number].want
    if thing is None:
        return None
    state = state_in(hall, thing)
    return state[1] if state[0] == "work" and state[1] != number else None


# A ring has no more hands than the hall, so as many steps lead back to the first one, or never will.
def is_stuck(hall, number):
    at = number
    for count in range(len(hall.hands)):
        at = other_at_work(hall, at)
        if at is None or at == number:
            return at == number
    return False


# Classes that are not new, and fields that were given numbers. Sorted, so that halls that are alike are told
# alike, whatever came first in them.
def what_became(hall):
    return (tuple(sorted(hall.states.items())), tuple(sorted(hall.fields.items())))


def woken(thing):
    hall = Hall(thing[0], tuple([part[0] for part in thing[1]]))
    hall.hands = [woken_hand(part) for part in thing[1]]
    hall.states = dict(thing[2])
    hall.fields = dict(thing[3])
    hall.noted = list(thing[4])
    return hall
