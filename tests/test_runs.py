"""Point 10: alone, by an order, in turns."""

import copy
import random
import unittest

from hall_samples import (
    ENDS, IDLE, READY, all_idle, crossed_needs, crossed_world, random_needs, turning_needs, turning_world, until_idle,
    view, wrong_needs,
)
from loaders.errors import NoNeeds, NoOrder, NoWorld
from loaders.hall import Hall
from loaders.runs import alone, in_turns, run
from samples import (
    NO_WORLDS, check_new_lists, full_world, needy_world, one_shelf, places, random_world, replaced, some_class,
    some_face, wrong_everywhere,
)

A = (0, "a")
B = (0, "b")
C = (0, "c")


def alone_by_hand(world, some):
    """What alone should tell, by the steps of a hall."""
    hall = Hall(world, (some,))
    steps = until_idle(hall, 0)
    return (hall.told(0), [told[1] for told in steps if told[0] in ("ready", "failed")], hall.notes())


class Alone(unittest.TestCase):
    def test_no_needs(self):
        self.assertEqual(alone(crossed_world(), ()), ([], [], []))

    def test_needs_that_are_not_found(self):
        world = ((None, (some_class("a"),)), (None, (some_class("b"),)))
        self.assertEqual(alone(world, ((0, "b"), (1, "a"))), ([("lacks", 0, "b"), ("lacks", 1, "a")], [], []))
        self.assertEqual(alone(world, ((0, "b"), A, (0, "b"))), (
            [("lacks", 0, "b"), ("ready", A), ("lacks", 0, "b")], [A], [],
        ))

    def test_a_class_ready(self):
        world = one_shelf(some_class("a", None, (), (("put", "x", 1), ("note", "one"), ("note", "two"))))
        self.assertEqual(alone(world, (A,)), ([("ready", A)], [A], [(A, "one"), (A, "two")]))

    def test_a_class_failed(self):
        world = one_shelf(some_class("a", None, (), (("note", "one"), ("fail", "worn"), ("note", "two"))))
        self.assertEqual(alone(world, (A,)), ([("failed", A, ("fail", A, "worn"))], [A], [(A, "one")]))

    def test_a_class_that_lacks_one(self):
        world = one_shelf(some_class("a", None, (), (("note", "one"), ("need", "none"), ("note", "two"))))
        self.assertEqual(alone(world, (A,)), ([("failed", A, ("lacks", A, "none"))], [A], [(A, "one")]))

    def test_a_class_that_can_not_be_linked(self):
        world = one_shelf(some_class("a", "f", (), (("note", "one"),)), some_face("f"))
        self.assertEqual(alone(world, (A,)), ([("failed", A, ("kind", A, "f"))], [A], []))

    def test_one_needed_twice(self):
        world = one_shelf(
            some_class("a", None, (), (("note", "one"),)),
            some_class("b", None, (), (("note", "two"), ("fail", "worn"))),
        )
        why = ("fail", B, "worn")
        self.assertEqual(alone(world, (A, B, A, B)), (
            [("ready", A), ("failed", B, why), ("ready", A), ("failed", B, why)], [A, B], [(A, "one"), (B, "two")],
        ))

    def test_the_class_above_is_ready_ahead_of_the_class(self):
        world = one_shelf(
            some_class("a", "b", (), (("note", "low"),)),
            some_class("b", "c", (), (("note", "mid"),)),
            some_class("c", None, (), (("note", "high"),)),
        )
        self.assertEqual(alone(world, (A,)), ([("ready", A)], [C, B, A], [(C, "high"), (B, "mid"), (A, "low")]))
        self.assertEqual(alone(world, (B, A))[:2], ([("ready", B), ("ready", A)], [C, B, A]))

    def test_the_class_above_is_ready_ahead_of_what_rows_need(self):
        world = one_shelf(
            some_class("a", "c", (), (("need", "b"),)), some_class("b", None, (), (("note", "mid"),)),
            some_class("c", None, (), (("note", "high"),)),
        )
        self.assertEqual(alone(world, (A,)), ([("ready", A)], [C, B, A], [(C, "high"), (B, "mid")]))

    def test_failed_ones_in_the_order_in_which_they_fail(self):
        world = one_shelf(
            some_class("a", "b", (), (("note", "low"),)),
            some_class("b", None, (), (("note", "mid"), ("read", "x", "c", "x"))),
            some_class("c", None, (), (("fail", "worn"),)),
            some_class("d", None, (), (("note", "last"),)),
        )
        why = ("fail", C, "worn")
        self.assertEqual(alone(world, ((0, "d"), A, B)), (
            [("ready", (0, "d")), ("failed", A, why), ("failed", B, why)], [(0, "d"), C, B, A],
            [((0, "d"), "last"), (B, "mid")],
        ))

    def test_a_class_that_needs_itself(self):
        world = one_shelf(some_class("a", None, (), (("note", "one"), ("need", "a"), ("note", "two"))))
        self.assertEqual(alone(world, (A,)), ([("ready", A)], [A], [(A, "one"), (A, "two")]))

    def test_classes_that_need_one_another(self):
        notes = [(B, "two"), (A, "one")]
        self.assertEqual(alone(crossed_world(), (A,)), ([("ready", A)], [B, A], notes))
        self.assertEqual(alone(crossed_world(), (B,)), ([("ready", B)], [A, B], notes[::-1]))
        self.assertEqual(alone(crossed_world(), (C, B)), ([("ready", C), ("ready", B)], [B, A, C], notes))

    def test_like_names_of_unlike_loaders(self):
        world = ((None, (some_class("a", None, (), (("note", "one"),)),)),) * 2
        self.assertEqual(alone(world, ((1, "a"), A)), (
            [("ready", (1, "a")), ("ready", A)], [(1, "a"), A], [((1, "a"), "one"), (A, "one")],
        ))

    def test_by_hand_in_many_worlds(self):
        chance = random.Random(20)
        for number in range(300):
            world = random_world(chance, number % 2 == 0)
            some = random_needs(chance, world, 1, 0, 4)[0]
            with self.subTest(world, some=some):
                self.assertEqual(alone(world, some), alone_by_hand(world, some))

    def test_kinds_of_what_is_told(self):
        told = alone(crossed_world(), (A,))
        self.assertIs(told.__class__, tuple)
        self.assertEqual([part.__class__ for part in told], [list, list, list])

    def test_told_lists_are_new_ones(self):
        for place in range(3):
            check_new_lists(self, lambda: alone(crossed_world(), (A,))[place])

    def test_no_world(self):
        for world in NO_WORLDS + (True, ((None, ()), (1, ()))):
            for some in ((), (A,), None, [], True):
                with self.subTest(world, some=some), self.assertRaises(NoWorld):
                    alone(world, some)

    def test_no_world_ahead_of_no_needs(self):
        for number, world in enumerate(wrong_everywhere()):
            for place, some in enumerate(wrong_everywhere() + [None]):
                with self.subTest(number, some=place), self.assertRaises(NoWorld):
                    alone(world, some)

    def test_no_needs_for_things_of_any_kind(self):
        some = ((0, "base"), (1, "none"))
        for path in places(some):
            for number, thing in enumerate(wrong_everywhere() + [None, 4]):
                with self.subTest(path, thing=number), self.assertRaises(NoNeeds):
                    alone(full_world(), replaced(some, path, thing))

    def test_no_needs_for_true_and_false(self):
        for loader in (True, False):
            alone(full_world(), ((int(loader), "base"),))
            for some in (((loader, "base"),), ((0, "base"), (loader, "base"))):
                with self.subTest(some), self.assertRaises(NoNeeds):
                    alone(full_world(), some)

    def test_no_needs_for_lists_and_lengths(self):
        need = (0, "base")
        for some in (
            [need], ([0, "base"],), (need,) * 5, need, ((need,),), ((),), ((0,),), (need + (0,),), (("base", 0),),
            ((4, "base"),), ((-1, "base"),), ((0, "seventy"),), ((0, ""),), ((0, "Base"),), "base", "", {}, 0, None,
        ):
            with self.subTest(some), self.assertRaises(NoNeeds):
                alone(full_world(), some)
        self.assertEqual(len(alone(full_world(), (need,) * 4)[0]), 4)


class ByAnOrder(unittest.TestCase):
    def check_run(self, world, needs, order):
        hall, told = run(world, needs, order)
        other = Hall(world, needs)
        self.assertEqual(told, [other.step(number) for number in order])
        self.assertEqual(view(hall, world, len(needs)), view(other, world, len(needs)))

    def test_as_a_new_hall_in_many_worlds(self):
        chance = random.Random(21)
        for number in range(150):
            world = random_world(chance, number % 2 == 0)
            hands = number % 3 + 1
            needs = random_needs(chance, world, hands, 0, 4)
            order = [chance.randrange(hands) for step in range(chance.randrange(120))]
            with self.subTest(world, needs=needs, order=order):
                self.check_run(world, needs, order)

    def test_what_is_told(self):
        hall, told = run(crossed_world(), crossed_needs(), [1, 1, 0, 1, 0, 0, 1, 0])
        self.assertEqual(told, [
            ("asks", B), ("begin", B), ("asks", A), ("row", B), ("begin", A), ("asks", B), ("asks", A), ("waits", B),
        ])
        self.assertEqual(hall.stuck(), [0, 1])
        self.assertEqual(hall.field(B, "x"), 3)

    def test_an_empty_order(self):
        for needs in (crossed_needs(), ((),), ((), (A,), ())):
            self.check_run(crossed_world(), needs, [])
            self.assertEqual(run(crossed_world(), needs, [])[1], [])

    def test_an_order_of_600(self):
        for order in ([0] * 600, [1] * 600, [0, 1] * 300, [1, 0, 0] * 200):
            with self.subTest(order[:3]):
                self.check_run(crossed_world(), crossed_needs(), order)
                self.assertEqual(len(run(crossed_world(), crossed_needs(), order)[1]), 600)

    def test_an_order_that_goes_on(self):
        chance = random.Random(22)
        for number in range(40):
            world = random_world(chance, number % 2 == 0)
            needs = random_needs(chance, world, 3)
            order = [chance.randrange(3) for step in range(60)]
            whole, told = run(world, needs, order)
            for place in (0, 1, 7, 30, 59, 60):
                hall, first = run(world, needs, order[:place])
                self.assertEqual(first + [hall.step(hand) for hand in order[place:]], told)
                self.assertEqual(view(hall, world, 3), view(whole, world, 3))

    def test_behind_idle(self):
        hall, told = run(one_shelf(some_class("a")), ((A,), ()), [1, 0, 0, 0, 0, 0, 1, 0])
        self.assertEqual(told, [IDLE, ("asks", A), ("begin", A), ("ready", A), ENDS, IDLE, IDLE, IDLE])
        self.assertEqual(hall.state(A), READY)

    def test_kinds_of_what_is_told(self):
        told = run(crossed_world(), crossed_needs(), [0, 1])
        self.assertIs(told.__class__, tuple)
        self.assertEqual([part.__class__ for part in told], [Hall, list])

    def test_the_order_is_not_changed_and_not_kept(self):
        order = [0, 1, 0, 0, 1, 1]
        kept = list(order)
        hall, told = run(crossed_world(), crossed_needs(), order)
        self.assertEqual(order, kept)
        self.assertIsNot(told, order)
        before = view(hall, crossed_world(), 2)
        heard = list(told)
        order.clear()
        self.assertEqual(told, heard)
        told.append("more")
        self.assertEqual(view(hall, crossed_world(), 2), before)

    def test_halls_are_new_ones(self):
        one = run(crossed_world(), crossed_needs(), [0])[0]
        other = run(crossed_world(), crossed_needs(), [0])[0]
        before = view(other, crossed_world(), 2)
        until_idle(one, 0)
        self.assertEqual(view(other, crossed_world(), 2), before)
        check_new_lists(self, lambda: run(crossed_world(), crossed_needs(), [0, 1])[1])

    def refuses(self, error, world, needs, order):
        with self.assertRaises(error):
            run(world, needs, order)

    def test_no_order_of_601(self):
        for order in ([0] * 601, [0, 1] * 301, [0] * 5000):
            self.refuses(NoOrder, crossed_world(), crossed_needs(), order)

    def test_no_order_for_other_kinds(self):
        for order in ((), (0,), (0, 1), {}, {0: 1}, "", "01", None, 0, 1, True, False, range(2), {0, 1}, b"\0\1", iter([0])):
            with self.subTest(order):
                self.refuses(NoOrder, crossed_world(), crossed_needs(), order)

    def test_no_order_for_numbers_of_no_hand(self):
        for hands in (1, 2, 3):
            needs = ((A,),) * hands
            for number in (-1, -2, hands, hands + 1, 600, 10 ** 5000, -10 ** 5000):
                for order in ([number], [0, 0, number], [number, 0]):
                    with self.subTest(hands, place=len(order)):
                        self.refuses(NoOrder, crossed_world(), needs, order)
            run(crossed_world(), needs, [hands - 1, 0])

    def test_no_order_for_true_and_false(self):
        for order in ([True], [False], [0, True], [False, 1], [0] * 599 + [False]):
            self.refuses(NoOrder, crossed_world(), crossed_needs(), order)

    def test_no_order_for_things_of_any_kind(self):
        for number, thing in enumerate(wrong_everywhere() + [None, (0,), "0", 2]):
            with self.subTest(number):
                for order in ([thing], [0, 1, thing], [thing, 0]):
                    self.refuses(NoOrder, crossed_world(), crossed_needs(), order)
                # The empty list is an order.
                if thing.__class__ is not list or len(thing) > 0:
                    self.refuses(NoOrder, crossed_world(), crossed_needs(), thing)

    def test_no_order_is_changed_by_being_refused(self):
        things = [[0, [1]], [True], [0] * 601, {"a": [0]}]
        before = copy.deepcopy(things)
        for thing in things:
            self.refuses(NoOrder, crossed_world(), crossed_needs(), thing)
        self.assertEqual(things, before)

    def test_which_refusal_is_told(self):
        for number, order in enumerate([None, [7], [True], [0] * 601, [0], []]):
            for place, needs in enumerate(wrong_needs()):
                with self.subTest(number, needs=place):
                    self.refuses(NoNeeds, crossed_world(), needs, order)
                    self.refuses(NoWorld, None, needs, order)
            for world in NO_WORLDS:
                self.refuses(NoWorld, world, crossed_needs(), order)
                self.refuses(NoWorld, world, None, order)
        self.refuses(NoNeeds, crossed_world(), None, None)


class InTurns(unittest.TestCase):
    def check_turns(self, world, needs):
        """Gives what the steps told, so that it can be looked at further."""
        hands = len(needs)
        hall, order = in_turns(world, needs)
        self.assertEqual(order, [step % hands for step in range(len(order))])
        other = Hall(world, needs)
        told = [other.step(number) for number in order]
        self.assertEqual(view(hall, world, hands), view(other, world, hands))
        quiet = [step[0] in ("idle", "waits") for step in told]
        self.assertEqual(quiet[-hands:], [True] * hands)
        for place in range(len(quiet) - hands):
            self.assertIn(False, quiet[place:place + hands])
        if len(order) <= 600:
            self.assertEqual(view(run(world, needs, order)[0], world, hands), view(hall, world, hands))
        return told

    def test_one_class_two_hands(self):
        world = one_shelf(some_class("a"))
        self.assertEqual(self.check_turns(world, ((A,), (A,))), [
            ("asks", A), ("asks", A), ("begin", A), ("waits", A), ("ready", A), ("known", A), ENDS, ENDS, IDLE, IDLE,
        ])

    def test_ends_within_a_round(self):
        world = one_shelf(some_class("a"))
        self.assertEqual(self.check_turns(world, ((A,), ())), [
            ("asks", A), IDLE, ("begin", A), IDLE, ("ready", A), IDLE, ENDS, IDLE, IDLE,
        ])
        self.assertEqual(self.check_turns(world, ((), (A,))), [
            IDLE, ("asks", A), IDLE, ("begin", A), IDLE, ("ready", A), IDLE, ENDS, IDLE, IDLE,
        ])

    def test_one_hand(self):
        world = crossed_world()
        for some in ((), (A,), (A, B, C), ((0, "no"),)):
            told = self.check_turns(world, (some,))
            self.assertEqual(told, until_idle(Hall(world, (some,)), 0))
            self.assertEqual(told.count(IDLE), 1)

    def test_no_needs(self):
        for hands in (1, 2, 3):
            self.assertEqual(self.check_turns(crossed_world(), ((),) * hands), [IDLE] * hands)

    def test_hands_that_are_stuck(self):
        told = self.check_turns(crossed_world(), crossed_needs())
        self.assertEqual(told[-2:], [("waits", B), ("waits", A)])
        self.assertEqual(in_turns(crossed_world(), crossed_needs())[0].stuck(), [0, 1])

    def test_three_hands_that_are_stuck(self):
        told = self.check_turns(turning_world(), turning_needs())
        self.assertEqual(told, (
            [("asks", A), ("asks", B), ("asks", C), ("begin", A), ("begin", B), ("begin", C)]
            + [("asks", B), ("asks", C), ("asks", A), ("waits", B), ("waits", C), ("waits", A)]
        ))
        self.assertEqual(in_turns(turning_world(), turning_needs())[0].stuck(), [0, 1, 2])

    def test_one_is_idle_and_two_are_stuck(self):
        needs = crossed_needs() + (((0, "no"),),)
        told = self.check_turns(crossed_world(), needs)
        self.assertEqual(sorted(told[-3:]), [IDLE, ("waits", A), ("waits", B)])

    def test_many_worlds(self):
        chance = random.Random(23)
        stuck = 0
        for number in range(300):
            world = needy_world(chance) if number % 2 else random_world(chance, True)
            needs = random_needs(chance, world, number % 3 + 1, 0, 4)
            with self.subTest(world, needs=needs):
                self.check_turns(world, needs)
                hall = in_turns(world, needs)[0]
                self.assertIs(all_idle(hall, len(needs)), hall.stuck() == [])
                stuck += hall.stuck() != []
        self.assertGreater(stuck, 5)

    def test_kinds_of_what_is_told(self):
        told = in_turns(crossed_world(), crossed_needs())
        self.assertIs(told.__class__, tuple)
        self.assertEqual([part.__class__ for part in told], [Hall, list])
        self.assertEqual({number.__class__ for number in told[1]}, {int})

    def test_new_ones_each_time(self):
        check_new_lists(self, lambda: in_turns(crossed_world(), crossed_needs())[1])
        self.assertIsNot(in_turns(crossed_world(), ((A,),))[0], in_turns(crossed_world(), ((A,),))[0])

    def test_refusals(self):
        for world in NO_WORLDS + (True,):
            for needs in (crossed_needs(), None, (), True):
                with self.subTest(world, needs=needs), self.assertRaises(NoWorld):
                    in_turns(world, needs)
        for number, needs in enumerate(wrong_needs()):
            with self.subTest(number), self.assertRaises(NoNeeds):
                in_turns(crossed_world(), needs)


class NothingChanged(unittest.TestCase):
    def test_what_was_handed_in_is_as_before(self):
        world = full_world()
        needs = (((1, "ball"), (0, "base")), ((1, "shape"),))
        before = copy.deepcopy((world, needs))
        alone(world, needs[0])
        run(world, needs, [0, 1] * 20)
        in_turns(world, needs)
        self.assertEqual((world, needs), before)

    def test_equal_things_give_equal_answers(self):
        chance = random.Random(24)
        for number in range(30):
            world = random_world(chance, True)
            needs = random_needs(chance, world, 2)
            order = [chance.randrange(2) for step in range(40)]
            like = copy.deepcopy((world, needs, order))
            self.assertEqual(alone(world, needs[0]), alone(like[0], like[1][0]))
            for one, other in (
                (run(world, needs, order), run(*like)), (in_turns(world, needs), in_turns(*like[:2])),
            ):
                self.assertEqual(one[1], other[1])
                self.assertEqual(view(one[0], world, 2), view(other[0], world, 2))


if __name__ == "__main__":
    unittest.main()
