import copy
import random
import unittest

from hall_samples import (
    crossed_needs, crossed_world, random_needs, turning_needs, turning_world, until_idle, view,
)
from loaders.errors import NoClass, NoHand, NoNeeds, NoWorld
from loaders.hall import Hall, woken
from samples import (
    NO_WORLDS, check_new_lists, full_world, no_classes, one_shelf, part_at, places, random_world, replaced,
    some_class, world_of_names, wrong_everywhere,
)

A = (0, "a")
B = (0, "b")
C = (0, "c")


def some_needs():
    return (((0, "base"), (1, "ball"), (1, "none")), (), ((3, "base"),))


class Needs(unittest.TestCase):
    def refuses(self, error, world, needs):
        with self.assertRaises(error):
            Hall(world, needs)

    def test_taken(self):
        need = (0, "base")
        for needs in (
            some_needs(), ((),), ((), ()), ((), (), ()), ((need,) * 4,), ((need,) * 4,) * 3, (((3, "zzzzzz"),),),
        ):
            with self.subTest(needs):
                hall = Hall(full_world(), needs)
                for number, some in enumerate(needs):
                    self.assertIs(hall.is_idle(number), not some)
                with self.assertRaises(NoHand):
                    hall.is_idle(len(needs))

    def test_no_hands_and_four(self):
        self.refuses(NoNeeds, full_world(), ())
        self.refuses(NoNeeds, full_world(), ((),) * 4)
        self.refuses(NoNeeds, full_world(), (((0, "base"),),) * 4)

    def test_five_needs_of_a_hand(self):
        for place in range(3):
            needs = [((0, "base"),)] * 3
            needs[place] = ((0, "base"),) * 5
            with self.subTest(place):
                self.refuses(NoNeeds, full_world(), tuple(needs))

    def test_needs_of_another_length(self):
        for need in ((), (0,), (0, "base", 0), (0, "base", None), ("base",), ("base", 0)):
            with self.subTest(need):
                self.refuses(NoNeeds, full_world(), ((need,),))

    def test_loaders_that_the_world_has_not(self):
        for world in (one_shelf(), ((None, ()),) * 2, ((None, ()),) * 4):
            for place, loader in enumerate((len(world), len(world) + 1, -1, -2, 10 ** 5000, None, "0", "base")):
                with self.subTest(len(world), place=place):
                    self.refuses(NoNeeds, world, (((loader, "a"),),))
            Hall(world, (((len(world) - 1, "a"),),))

    def test_true_and_false_as_loaders(self):
        for loader in (True, False):
            Hall(full_world(), (((int(loader), "base"),),))
            self.refuses(NoNeeds, full_world(), (((loader, "base"),),))
            self.refuses(NoNeeds, full_world(), ((), (), ((0, "base"), (loader, "base"))))

    def test_names_that_are_no_words(self):
        for name in ("", "seventy", "Base", "a b", "a1", "base\n", "\u00e9", None, 0, (), ("base",), ["base"]):
            with self.subTest(name):
                self.refuses(NoNeeds, full_world(), (((0, name),),))
                self.refuses(NoNeeds, full_world(), (((0, "base"), (0, name)),))

    def test_lists_in_the_place_of_tuples(self):
        for path in places(some_needs()):
            part = part_at(some_needs(), path)
            if isinstance(part, tuple):
                with self.subTest(path):
                    self.refuses(NoNeeds, full_world(), replaced(some_needs(), path, list(part)))

    def test_things_of_any_kind_in_every_place(self):
        for path in places(some_needs()):
            for number, thing in enumerate(wrong_everywhere() + [None, 4, -10]):
                with self.subTest(path, thing=number):
                    # In the place of all needs this one is right: a hand that has none.
                    if not (path == () and isinstance(thing, tuple) and thing == ((),)):
                        self.refuses(NoNeeds, full_world(), replaced(some_needs(), path, thing))

    def test_no_world(self):
        for world in NO_WORLDS + (((None, ()), (1, ())), True):
            with self.subTest(world):
                self.refuses(NoWorld, world, (((0, "a"),),))
                self.refuses(NoWorld, world, ())

    def test_no_world_for_a_fault_in_any_place(self):
        for path in places(full_world()):
            with self.subTest(path):
                self.refuses(NoWorld, replaced(full_world(), path, True), some_needs())

    def test_no_world_ahead_of_no_needs(self):
        for number, world in enumerate(wrong_everywhere()):
            for place, needs in enumerate(wrong_everywhere() + [None, some_needs()]):
                with self.subTest(number, needs=place):
                    self.refuses(NoWorld, world, needs)


class Methods(unittest.TestCase):
    def hall_on_its_way(self):
        hall = Hall(crossed_world(), crossed_needs())
        for number in (0, 0, 1, 1, 1, 0, 1, 1):
            hall.step(number)
        return hall

    def refuses_and_stays(self, error, hall, hands, call):
        before = view(hall, crossed_world(), hands)
        with self.assertRaises(error):
            call()
        self.assertEqual(view(hall, crossed_world(), hands), before)

    def test_no_hand(self):
        for hall, hands in ((self.hall_on_its_way(), 2), (Hall(crossed_world(), ((A,),)), 1)):
            for place, number in enumerate(wrong_everywhere() + [hands, hands + 1, -2, None, (0,), "0", 10 ** 5000]):
                for call in (hall.step, hall.told, hall.is_idle, hall.waits_for):
                    with self.subTest(hands, place=place):
                        self.refuses_and_stays(NoHand, hall, hands, lambda: call(number))

    def test_no_hand_of_two_and_of_three(self):
        for hands in (1, 2, 3):
            hall = Hall(crossed_world(), ((),) * hands)
            for number in range(-3, 6):
                with self.subTest(hands, number=number):
                    if 0 <= number < hands:
                        self.assertEqual(hall.step(number), ("idle",))
                        self.assertEqual(hall.told(number), [])
                        self.assertIs(hall.is_idle(number), True)
                        self.assertIsNone(hall.waits_for(number))
                    else:
                        for call in (hall.step, hall.told, hall.is_idle, hall.waits_for):
                            with self.assertRaises(NoHand):
                                call(number)

    def test_no_class(self):
        hall = self.hall_on_its_way()
        for place, thing in enumerate(no_classes(crossed_world(), A)):
            with self.subTest(place):
                self.refuses_and_stays(NoClass, hall, 2, lambda: hall.state(thing))
                self.refuses_and_stays(NoClass, hall, 2, lambda: hall.field(thing, "x"))
                self.refuses_and_stays(NoClass, hall, 2, lambda: hall.field(thing, thing))

    def test_no_class_for_files_that_are_never_found(self):
        hall = Hall(world_of_names((None, "a"), (0, "a b")), (((1, "a"),),))
        until_idle(hall, 0)
        self.assertEqual(hall.state(A), ("ready",))
        for call in (lambda: hall.state((1, "a")), lambda: hall.field((1, "a"), "x")):
            with self.assertRaises(NoClass):
                call()

    def test_true_and_false_behind_equal_classes(self):
        hall = Hall(world_of_names((None, "a"), (None, "a")), (((0, "a"), (1, "a")),))
        until_idle(hall, 0)
        for loader in (0, 1):
            self.assertEqual(hall.state((loader, "a")), ("ready",))
            with self.assertRaises(NoClass):
                hall.state((bool(loader), "a"))
            with self.assertRaises(NoClass):
                hall.field((bool(loader), "a"), "x")

    def test_what_is_no_field_was_never_given_a_number(self):
        hall = self.hall_on_its_way()
        self.assertEqual(hall.field(B, "x"), 3)
        for place, name in enumerate(wrong_everywhere() + [None, ("x",), ["x"]]):
            with self.subTest(place):
                self.assertEqual(hall.field(B, name), 0)

    def test_a_refused_step_does_not_count(self):
        hall = Hall(crossed_world(), crossed_needs())
        other = Hall(crossed_world(), crossed_needs())
        for number in (0, 1, 0, 1, 0, 1, 0, 1):
            with self.assertRaises(NoHand):
                hall.step(2)
            with self.assertRaises(NoHand):
                hall.step(bool(number))
            self.assertEqual(hall.step(number), other.step(number))
        self.assertEqual(hall.saved(), other.saved())

    def test_kinds_of_what_is_told(self):
        hall = self.hall_on_its_way()
        for told, kind in (
            (hall.step(0), tuple), (hall.told(0), list), (hall.is_idle(0), bool), (hall.waits_for(0), int),
            (hall.state(A), tuple), (hall.field(B, "x"), int), (hall.notes(), list), (hall.stuck(), list),
            (hall.saved(), tuple),
        ):
            self.assertIs(told.__class__, kind)


class Waiting(unittest.TestCase):
    def test_idle(self):
        hall = Hall(one_shelf(some_class("a")), ((A, (0, "no")), ()))
        self.assertEqual((hall.is_idle(0), hall.is_idle(1)), (False, True))
        for idle in (False, False, False, False, True, True):
            hall.step(0)
            self.assertIs(hall.is_idle(0), idle)

    def test_not_for_itself(self):
        hall = Hall(one_shelf(some_class("a", None, (), (("need", "a"),))), ((A,),))
        for number in range(3):
            hall.step(0)
        self.assertIsNone(hall.waits_for(0))
        self.assertEqual(hall.stuck(), [])

    def test_as_soon_as_it_wants(self):
        hall = Hall(one_shelf(some_class("a")), ((A,), (A,)))
        hall.step(0)
        hall.step(0)
        self.assertIsNone(hall.waits_for(1))
        self.assertEqual(hall.step(1), ("asks", A))
        self.assertEqual(hall.waits_for(1), 0)

    def test_not_for_what_is_ready(self):
        hall = Hall(one_shelf(some_class("a")), ((A,), (A,)))
        until_idle(hall, 0)
        hall.step(1)
        self.assertIsNone(hall.waits_for(1))

    def test_two_stuck(self):
        hall = Hall(crossed_world(), crossed_needs())
        for number, stuck in (
            (0, []), (0, []), (1, []), (1, []), (1, []), (1, []), (1, []), (0, [0, 1]), (0, [0, 1]), (1, [0, 1]),
        ):
            hall.step(number)
            self.assertEqual(hall.stuck(), stuck)
        self.assertEqual((hall.waits_for(0), hall.waits_for(1)), (1, 0))

    def test_three_stuck(self):
        hall = Hall(turning_world(), turning_needs())
        for number in (2, 2, 2, 0, 0, 0, 1, 1):
            hall.step(number)
            self.assertEqual(hall.stuck(), [])
        hall.step(1)
        self.assertEqual(hall.stuck(), [0, 1, 2])
        self.assertEqual([hall.waits_for(number) for number in range(3)], [1, 2, 0])

    def test_one_waits_for_a_stuck_one_without_being_in_the_ring(self):
        for place in range(3):
            needs = list(crossed_needs())
            needs.insert(place, (C,))
            others = [number for number in range(3) if number != place]
            hall = Hall(crossed_world(), tuple(needs))
            for number in others + others + others + others + others:
                hall.step(number)
            with self.subTest(place):
                self.assertEqual(hall.stuck(), others)
                for told in (("asks", C), ("begin", C), ("asks", A), ("waits", A)):
                    self.assertEqual(hall.step(place), told)
                    self.assertEqual(hall.stuck(), others)
                self.assertEqual(hall.waits_for(place), others[0])
                self.assertEqual([hall.waits_for(number) for number in others], others[::-1])


class Saved(unittest.TestCase):
    def is_plain(self, thing):
        if isinstance(thing, tuple):
            self.assertIs(thing.__class__, tuple)
            for part in thing:
                self.is_plain(part)
        elif thing is not None:
            self.assertIn(thing.__class__, (int, str))

    def test_saved_and_woken_on_many_ways(self):
        chance = random.Random(8)
        for number in range(60):
            world = random_world(chance, number % 2 == 0)
            hands = number % 3 + 1
            hall = Hall(world, random_needs(chance, world, hands))
            for step in range(40):
                saved = hall.saved()
                self.is_plain(saved)
                before = copy.deepcopy(saved)
                self.assertEqual(hall.saved(), saved)
                other = woken(saved)
                self.assertIsInstance(other, Hall)
                self.assertEqual(view(other, world, hands), view(hall, world, hands))
                hand = chance.randrange(hands)
                now = view(hall, world, hands)
                told = other.step(hand)
                self.assertEqual(view(hall, world, hands), now)
                self.assertEqual(hall.step(hand), told)
                self.assertEqual(view(other, world, hands), view(hall, world, hands))
                self.assertEqual(saved, before)
                self.assertEqual(view(woken(saved), world, hands), now)

    def test_one_woken_early_goes_the_same_way(self):
        chance = random.Random(9)
        for number in range(40):
            world = random_world(chance, number % 2 == 0)
            hall = Hall(world, random_needs(chance, world, 2))
            for step in range(chance.randrange(12)):
                hall.step(chance.randrange(2))
            other = woken(hall.saved())
            order = [chance.randrange(2) for step in range(60)]
            told = [hall.step(hand) for hand in order]
            self.assertEqual([other.step(hand) for hand in order], told)
            self.assertEqual(view(other, world, 2), view(hall, world, 2))

    def test_in_each_state_of_one_hand(self):
        world = one_shelf(
            some_class("a", "b", (), (("note", "one"), ("read", "x", "c", "y"))),
            some_class("b", None, (), (("put", "x", 2),)), some_class("c", None, (), (("put", "y", 0), ("fail", "no"))),
        )
        needs = ((A, C, (0, "no"), B),)
        hall = Hall(world, needs)
        plain = until_idle(Hall(world, needs), 0)
        for told in plain:
            hall = woken(hall.saved())
            self.assertEqual(hall.step(0), told)
        self.assertEqual(hall.told(0), [
            ("failed", A, ("fail", C, "no")), ("failed", C, ("fail", C, "no")), ("lacks", 0, "no"), ("ready", B),
        ])

    def test_stuck_ones(self):
        hall = Hall(crossed_world(), crossed_needs())
        for number in (0, 1) * 5:
            hall.step(number)
        other = woken(hall.saved())
        self.assertEqual(other.stuck(), [0, 1])
        self.assertEqual((other.waits_for(0), other.waits_for(1)), (1, 0))

    def test_alike_behind_other_orders_that_come_to_the_same(self):
        world = one_shelf(*(some_class(name, None, (), (("put", "x", 1),)) for name in "ab"))
        one = Hall(world, ((A,), (B,)))
        other = Hall(world, ((A,), (B,)))
        for number in (0, 0, 0, 1, 1, 1):
            one.step(number)
        for number in (1, 1, 1, 0, 0, 0):
            other.step(number)
        self.assertEqual((one.field(A, "x"), one.field(B, "x")), (1, 1))
        self.assertEqual(one.saved(), other.saved())

    def test_unlike_behind_each_step_that_does_something(self):
        hall = Hall(crossed_world(), crossed_needs())
        seen = [hall.saved()]
        while hall.step(0) != ("idle",):
            self.assertNotIn(hall.saved(), seen)
            seen.append(hall.saved())
        self.assertEqual(hall.saved(), seen[-1])


class NothingChangedOrKept(unittest.TestCase):
    def test_what_was_handed_in_is_as_before(self):
        world = crossed_world()
        needs = crossed_needs()
        before = copy.deepcopy((world, needs))
        hall = Hall(world, needs)
        until_idle(hall, 0)
        until_idle(hall, 1)
        saved = hall.saved()
        kept = copy.deepcopy(saved)
        woken(saved).step(0)
        self.assertEqual((world, needs), before)
        self.assertEqual(saved, kept)

    def test_what_is_refused_is_as_before(self):
        things = [[((0, "a"),)], [[[0, "a"]]], {"a": [1]}, [0, "a"]]
        before = copy.deepcopy(things)
        hall = Hall(crossed_world(), crossed_needs())
        for thing in things:
            for call in (
                lambda: Hall(thing, crossed_needs()), lambda: Hall(crossed_world(), thing), lambda: hall.step(thing),
                lambda: hall.state(thing), lambda: hall.field(thing, "x"),
            ):
                with self.assertRaises((NoWorld, NoNeeds, NoHand, NoClass)):
                    call()
        self.assertEqual(things, before)

    def test_told_lists_are_new_ones(self):
        hall = Hall(crossed_world(), crossed_needs())
        until_idle(hall, 0)
        stuck = Hall(crossed_world(), crossed_needs())
        for number in (0, 1) * 5:
            stuck.step(number)
        for told in (lambda: hall.told(0), hall.notes, stuck.stuck):
            check_new_lists(self, told)
        self.assertEqual(hall.step(0), ("idle",))
        self.assertEqual(hall.notes(), [(B, "two"), (A, "one")])

    def test_changed_lists_change_no_later_step(self):
        hall = Hall(crossed_world(), crossed_needs())
        other = Hall(crossed_world(), crossed_needs())
        for number in (0, 0, 1, 0, 0, 1) * 5:
            self.assertEqual(hall.step(number), other.step(number))
            for told in (hall.told(0), hall.told(1), hall.notes(), hall.stuck()):
                told.append("more")
        self.assertEqual(view(hall, crossed_world(), 2), view(other, crossed_world(), 2))

    def test_two_halls_of_one_world_do_not_touch(self):
        world = crossed_world()
        one = Hall(world, crossed_needs())
        other = Hall(world, crossed_needs())
        before = view(other, world, 2)
        until_idle(one, 0)
        self.assertEqual(view(other, world, 2), before)
        self.assertEqual(view(Hall(world, crossed_needs()), world, 2), before)
        after = view(one, world, 2)
        until_idle(other, 1)
        self.assertEqual(view(one, world, 2), after)

    def test_equal_answers_behind_the_same_steps(self):
        chance = random.Random(10)
        for number in range(30):
            world = random_world(chance, True)
            needs = random_needs(chance, world, 3)
            order = [chance.randrange(3) for step in range(60)]
            one = Hall(world, needs)
            other = Hall(copy.deepcopy(world), copy.deepcopy(needs))
            self.assertEqual([one.step(hand) for hand in order], [other.step(hand) for hand in order])
            self.assertEqual(view(one, world, 3), view(other, world, 3))

    def test_asking_changes_nothing(self):
        asked = Hall(crossed_world(), crossed_needs())
        plain = Hall(crossed_world(), crossed_needs())
        for number in (0, 1) * 8:
            view(asked, crossed_world(), 2)
            self.assertEqual(asked.step(number), plain.step(number))
        self.assertEqual(asked.saved(), plain.saved())


if __name__ == "__main__":
    unittest.main()
