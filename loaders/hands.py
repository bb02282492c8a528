"""What hands are handed as needs, and what each hand has at hand while it works on them."""

from loaders.files import is_number, is_tuple, is_word


def is_need(world, thing):
    if not is_tuple(thing, 2, 2):
        return False
    return is_number(thing[0], 0, len(world) - 1) and is_word(thing[1])


def are_hand_needs(world, thing):
    return is_tuple(thing, 0, 4) and all([is_need(world, need) for need in thing])


def are_needs(world, thing):
    return is_tuple(thing, 1, 3) and all([are_hand_needs(world, some) for some in thing])


# A class while a hand sets it up: how many of its steps are done, and the class for which the step
# that comes next has asked, None if it has not asked yet.
class Setup:
    def __init__(self, thing, done, asked):
        self.thing = thing
        self.done = done
        self.asked = asked


# The first one of the needs left is the one that is worked on; its goal is the class found for it, None
# if it was not looked for yet. The reason is that of what failed on the hand, until it is told.
class Hand:
    def __init__(self, left):
        self.left = left
        self.heard = []
        self.goal = None
        self.want = None
        self.reason = None
        self.work = []


def saved_hand(hand):
    work = [(setup.thing, setup.done, setup.asked) for setup in hand.work]
    return (hand.left, tuple(hand.heard), hand.goal, hand.want, hand.reason, tuple(work))


def woken_hand(thing):
    hand = Hand(thing[0])
    hand.heard = list(thing[1])
    hand.goal = thing[2]
    hand.want = thing[3]
    hand.reason = thing[4]
    hand.work = [Setup(part[0], part[1], part[2]) for part in thing[5]]
    return hand
