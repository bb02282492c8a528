"""Point 11: orders that stick, and all ends."""

import copy
import itertools
import random
import unittest

from hall_samples import (
    READY, all_halls, all_idle, crossed_needs, crossed_world, random_needs, turning_needs, turning_world, wrong_needs,
)
from loaders.errors import NoNeeds, NoWorld, TooMany
from loaders.finding import classes
from loaders.hall import Hall, woken
from loaders.needs import all_rings, ring
from loaders.orders import ends, sticks
from loaders.runs import run
from samples import (
    NO_WORLDS, check_new_lists, full_world, needy_world, one_shelf, random_world, some_class, some_face,
    wrong_everywhere,
)

A = (0, "a")
B = (0, "b")
C = (0, "c")
MOST = 400


def orders_up_to(hands, steps):
    for count in range(steps + 1):
        for order in itertools.product(range(hands), repeat=count):
            yield list(order)


def shortest_that_sticks(world, needs):
    """How many steps it takes until hands can be stuck, or None. Walks all halls of one step, of two, and so on."""
    now = {Hall(world, needs).saved()}
    seen = set()
    count = 0
    while now:
        if any([woken(saved).stuck() for saved in now]):
            return count
        seen |= now
        later = set()
        for saved in now:
            for number in range(len(needs)):
                hall = woken(saved)
                hall.step(number)
                later.add(hall.saved())
        now = later - seen
        count += 1
    return None


def given_numbers(world, needs):
    """All pairs (end, fields that rows gave a number), by the steps that tell rows, of all orders."""
    first = Hall(world, needs)
    seen = set()
    waiting = [(first.saved(), frozenset(), ())]
    told = set()
    while waiting:
        saved, given, done = waiting.pop()
        hall = woken(saved)
        if all_idle(hall, len(needs)):
            states = [(thing, hall.state(thing)) for thing in classes(world)]
            told.add((
                tuple(pair for pair in states if pair[1] != ("new",)),
                tuple((pair, hall.field(*pair)) for pair in sorted(given)),
            ))
        for number in range(len(needs)):
            after = woken(saved)
            step = after.step(number)
            count = dict(done)
            more = given
            if step[0] == "row":
                row = steps_of_file(world, step[1])[count.get(step[1], 0)]
                count[step[1]] = count.get(step[1], 0) + 1
                if row[0] in ("put", "read"):
                    more = given | {(step[1], row[1])}
            new = (after.saved(), more, tuple(sorted(count.items())))
            if new not in seen:
                seen.add(new)
                waiting.append(new)
    return told


def steps_of_file(world, thing):
    file = [file for file in world[thing[0]][1] if file[1] == thing[1]][0]
    return ([("need", file[2])] if file[2] else []) + list(file[4])


class Sticks(unittest.TestCase):
    def check_order(self, world, needs, order):
        """Stuck behind it, and behind no beginning of it; each step of it changes something."""
        self.assertIs(order.__class__, list)
        hall = Hall(world, needs)
        for number in order:
            self.assertEqual(hall.stuck(), [])
            before = hall.saved()
            self.assertNotIn(hall.step(number)[0], ("idle", "waits"))
            self.assertNotEqual(hall.saved(), before)
        self.assertNotEqual(hall.stuck(), [])
        self.assertEqual(run(world, needs, order)[0].stuck(), hall.stuck())

    def check_none_shorter(self, world, needs, order):
        for shorter in orders_up_to(len(needs), len(order) - 1):
            self.assertEqual(run(world, needs, shorter)[0].stuck(), [])

    def test_two_classes_that_need_one_another(self):
        world = one_shelf(
            some_class("a", None, (), (("need", "b"),)), some_class("b", None, (), (("need", "a"),)),
        )
        for needs in (crossed_needs(), crossed_needs()[::-1], ((A, B), (B, A))):
            order = sticks(world, needs)
            with self.subTest(needs):
                self.assertEqual(len(order), 6)
                self.assertEqual(order.count(0), 3)
                self.check_order(world, needs, order)
                self.check_none_shorter(world, needs, order)

    def test_with_other_rows_ahead(self):
        order = sticks(crossed_world(), crossed_needs())
        self.assertEqual((order.count(0), order.count(1)), (3, 4))
        self.check_order(crossed_world(), crossed_needs(), order)
        self.check_none_shorter(crossed_world(), crossed_needs(), order)

    def test_rows_that_read(self):
        world = one_shelf(
            some_class("a", None, (), (("read", "x", "b", "y"),)), some_class("b", None, (), (("read", "y", "a", "x"),)),
        )
        order = sticks(world, crossed_needs())
        self.check_order(world, crossed_needs(), order)
        self.check_none_shorter(world, crossed_needs(), order)

    def test_a_class_above_that_needs_the_one_below(self):
        world = one_shelf(some_class("a", "b"), some_class("b", None, (), (("need", "a"),)))
        order = sticks(world, crossed_needs())
        self.assertEqual(len(order), 6)
        self.check_order(world, crossed_needs(), order)
        self.check_none_shorter(world, crossed_needs(), order)

    def test_a_ring_behind_the_needs(self):
        world = one_shelf(
            some_class("a", None, (), (("need", "c"),)), some_class("b", None, (), (("need", "d"),)),
            some_class("c", None, (), (("need", "d"),)), some_class("d", None, (), (("need", "c"),)),
        )
        order = sticks(world, crossed_needs())
        self.assertEqual(len(order), 10)
        self.check_order(world, crossed_needs(), order)
        self.check_none_shorter(world, crossed_needs(), order)

    def test_behind_a_need_that_is_not_found(self):
        needs = (((0, "none"), A), (B, C))
        order = sticks(crossed_world(), needs)
        self.assertEqual((order.count(0), order.count(1)), (4, 4))
        self.check_order(crossed_world(), needs, order)
        self.check_none_shorter(crossed_world(), needs, order)

    def test_two_of_three_hands(self):
        for place in range(3):
            needs = list(crossed_needs())
            needs.insert(place, ((0, "none"),))
            order = sticks(crossed_world(), tuple(needs))
            with self.subTest(place):
                self.assertEqual(order.count(place), 0)
                self.assertEqual(len(order), 7)
                self.check_order(crossed_world(), tuple(needs), order)

    def test_three_hands(self):
        order = sticks(turning_world(), turning_needs())
        self.assertEqual(len(order), 8)
        self.check_order(turning_world(), turning_needs(), order)
        self.check_none_shorter(turning_world(), turning_needs(), order)

    def test_unlike_loaders(self):
        world = (
            (None, (some_class("a", None, (), (("need", "b"),)), some_class("b", None, (), (("need", "a"),)))),
            (0, (some_class("c", "a"), some_class("d", None, (), (("need", "b"),)))),
        )
        needs = (((1, "c"),), ((1, "d"),))
        order = sticks(world, needs)
        self.assertEqual(len(order), 10)
        self.check_order(world, needs, order)
        self.check_none_shorter(world, needs, order)

    def test_none_without_a_ring(self):
        world = one_shelf(
            some_class("a", "b", ("f",), (("need", "c"),)), some_class("b", None, (), (("read", "x", "c", "x"),)),
            some_class("c"), some_face("f"),
        )
        self.assertIsNone(sticks(world, ((A,), (B,))))
        self.assertIsNone(sticks(world, ((B,), (A,))))
        self.assertIsNone(sticks(world, ((A, C), (C,))))
        self.assertIsNone(sticks(full_world(), (((1, "ball"),), ((0, "base"),))))

    def test_none_for_like_names_of_unlike_loaders(self):
        world = (
            (None, (some_class("a", None, (), (("need", "b"),)), some_class("b"))),
            (None, (some_class("b", None, (), (("need", "a"),)), some_class("a"))),
        )
        self.assertIsNone(sticks(world, ((A,), ((1, "b"),))))

    def test_none_for_one_hand(self):
        for world, some in (
            (crossed_world(), (A, B)), (turning_world(), (A, B, C)), (crossed_world(), ()),
            (one_shelf(some_class("a", None, (), (("need", "a"),))), (A,)),
        ):
            self.assertIsNone(sticks(world, (some,)))
            self.assertIsNone(sticks(world, (some, ())))
            self.assertIsNone(sticks(world, (some, ((0, "none"),), ())))

    def test_none_without_needs(self):
        for hands in (1, 2, 3):
            self.assertIsNone(sticks(crossed_world(), ((),) * hands))

    def test_none_where_a_ring_is_there(self):
        # Who begins a class has all of the ring ahead of the other one, or the ring has one class alone.
        for world, needs in (
            (crossed_world(), ((A,), (A,))), (turning_world(), ((B,), (B,))), (turning_world(), ((C, A), (C, B))),
            (one_shelf(some_class("a", None, (), (("need", "a"),))), ((A,), (A,))),
        ):
            with self.subTest(world, needs=needs):
                self.assertTrue(all_rings(world))
                self.assertIsNotNone(ring(world, needs[0][0]))
                self.assertIsNone(sticks(world, needs))
                self.assertIsNone(shortest_that_sticks(world, needs))

    def test_none_where_classes_fail_ahead_of_the_ring(self):
        world = one_shelf(
            some_class("a", None, (), (("fail", "worn"), ("need", "b"))), some_class("b", None, (), (("need", "a"),)),
        )
        self.assertTrue(all_rings(world))
        self.assertIsNone(sticks(world, crossed_needs()))

    def test_many_worlds(self):
        chance = random.Random(30)
        found = [0, 0]
        for number in range(120):
            world = needy_world(chance) if number % 2 else random_world(chance, True)
            needs = random_needs(chance, world, 2)
            if len(all_halls(world, needs)) <= MOST:
                order = sticks(world, needs)
                count = shortest_that_sticks(world, needs)
                found[order is not None] += 1
                with self.subTest(world, needs=needs):
                    self.assertEqual(None if order is None else len(order), count)
                    if order is not None:
                        self.check_order(world, needs, order)
        self.assertGreater(min(found), 10)


class Ends(unittest.TestCase):
    def check_ends(self, world, needs, wanted):
        told = ends(world, needs)
        self.assertIs(told.__class__, list)
        self.assertEqual(sorted(told), sorted(wanted))
        for end in told:
            self.assertIs(end.__class__, tuple)
            self.assertEqual([part.__class__ for part in end], [tuple, tuple])
            for part in end:
                self.assertEqual(part, tuple(sorted(part)))
                self.assertEqual({pair.__class__ for pair in part} | {tuple}, {tuple})

    def test_no_needs_that_are_found(self):
        for needs in (((),), ((), (), ()), (((0, "none"),),), (((0, "none"),) * 4, ((0, "no"),))):
            self.check_ends(crossed_world(), needs, [((), ())])

    def test_one_end_without_a_ring(self):
        world = one_shelf(
            some_class("d", "b", ("f",), (("read", "y", "c", "x"), ("put", "x", 8))),
            some_class("c", None, (), (("put", "x", 7), ("put", "x", 6))),
            some_class("b", None, (), (("note", "high"),)),
            some_face("f"),
        )
        d = (0, "d")
        classes_then = ((B, READY), (C, READY), (d, READY))
        fields_then = (((C, "x"), 6), ((d, "x"), 8), ((d, "y"), 6))
        for needs in (((d,),), ((d,), (C,)), ((C, d), (B,)), ((B,), (d, C)), ((d,), (d,))):
            with self.subTest(needs):
                self.check_ends(world, needs, [(classes_then, fields_then)])
        self.check_ends(world, ((B,), (C,)), [(((B, READY), (C, READY)), (((C, "x"), 6),))])

    def test_without_new_classes(self):
        self.check_ends(one_shelf(some_class("a"), some_class("b"), some_class("c")), ((B,), (B,)), [(((B, READY),), ())])

    def test_a_field_that_was_given_0_is_there(self):
        world = one_shelf(
            some_class("a", None, (), (("put", "x", 0), ("note", "y"))), some_class("b", None, (), (("read", "z", "a", "w"),)),
        )
        self.check_ends(world, ((A,),), [(((A, READY),), (((A, "x"), 0),))])
        self.check_ends(world, ((A,), (B,)), [(((A, READY), (B, READY)), (((A, "x"), 0), ((B, "z"), 0)))])

    def test_failed_ones(self):
        world = one_shelf(
            some_class("a", None, (), (("put", "x", 1), ("need", "b"), ("put", "y", 2))),
            some_class("b", None, (), (("fail", "worn"), ("put", "x", 3))),
            some_class("c", "none", (), (("put", "x", 4),)),
        )
        state = ("failed", ("fail", B, "worn"))
        self.check_ends(world, ((A,), (B,), (C,)), [(
            ((A, state), (B, state), (C, ("failed", ("lacks", C, "none")))), (((A, "x"), 1),),
        )])

    def test_several_where_the_order_counts(self):
        world = one_shelf(
            some_class("a", None, (), (("read", "y", "b", "x"), ("put", "x", 1))),
            some_class("b", None, (), (("read", "y", "a", "x"), ("put", "x", 2))),
        )
        both = ((A, READY), (B, READY))
        first = (both, (((A, "x"), 1), ((A, "y"), 2), ((B, "x"), 2), ((B, "y"), 0)))
        second = (both, (((A, "x"), 1), ((A, "y"), 0), ((B, "x"), 2), ((B, "y"), 1)))
        self.check_ends(world, crossed_needs(), [first, second])
        self.check_ends(world, ((A,), (A,)), [first])
        self.check_ends(world, ((B,),), [second])
        self.check_ends(world, ((A, B),), [first])
        self.check_ends(world, ((A, B), (B, A)), [first, second])

    def test_several_where_one_fails_or_not(self):
        # b begun by itself meets a, which fails; begun by a it finds a at work, and is ready.
        world = one_shelf(
            some_class("a", None, (), (("need", "b"), ("fail", "worn"))), some_class("b", None, (), (("need", "a"),)),
        )
        failed = ("failed", ("fail", A, "worn"))
        self.check_ends(world, crossed_needs(), [(((A, failed), (B, READY)), ()), (((A, failed), (B, failed)), ())])

    def test_each_end_once(self):
        # Notes come in several orders, but are in no end.
        world = one_shelf(
            some_class("a", None, (), (("note", "one"),)), some_class("b", None, (), (("note", "two"),)),
        )
        self.check_ends(world, crossed_needs(), [(((A, READY), (B, READY)), ())])
        notes = {tuple(woken(saved).notes()) for saved in all_halls(world, crossed_needs())}
        self.assertIn(((A, "one"), (B, "two")), notes)
        self.assertIn(((B, "two"), (A, "one")), notes)

    def test_stuck_ones_are_no_ends(self):
        both = ((A, READY), (B, READY))
        self.check_ends(crossed_world(), crossed_needs(), [(both, (((B, "x"), 3),))])
        self.check_ends(turning_world(), turning_needs(), [(both + ((C, READY),), ())])

    def test_many_worlds(self):
        chance = random.Random(31)
        several = 0
        for number in range(80):
            world = needy_world(chance) if number % 4 else random_world(chance, True)
            needs = random_needs(chance, world, 2)
            if len(all_halls(world, needs)) <= MOST:
                with self.subTest(world, needs=needs):
                    self.check_ends(world, needs, given_numbers(world, needs))
                several += len(ends(world, needs)) > 1
        self.assertGreater(several, 3)


def puts(count):
    return tuple(("put", "x", number) for number in range(count))


WIDE = one_shelf(*(some_class(name, None, (), puts(5)) for name in "abcd"))
NONE = (0, "none")


class TooManyHalls(unittest.TestCase):
    """A class with 5 rows takes a hand 9 steps, one that is ready 3, one that is not found 1; hands that set up
    unlike classes don't meet, so that each hall of the one comes with each hall of the other."""

    def ends_of(self, *names):
        return [(
            tuple(((0, name), READY) for name in names), tuple((((0, name), "x"), 4) for name in names),
        )]

    def test_400_are_not_refused(self):
        needs = ((A, B, NONE), (C, (0, "d"), NONE))
        self.assertEqual(len(all_halls(WIDE, needs)), 400)
        self.assertIsNone(sticks(WIDE, needs))
        self.assertEqual(ends(WIDE, needs), self.ends_of("a", "b", "c", "d"))

    def test_403_are_refused(self):
        needs = ((A, NONE, NONE, NONE), (B, C, (0, "d"), B))
        self.assertEqual(len(all_halls(WIDE, needs)), 403)
        for call in (sticks, ends):
            with self.assertRaises(TooMany):
                call(WIDE, needs)

    def test_many_more_are_refused(self):
        needs = ((A, B, C, (0, "d")), (B, A, (0, "d"), C), ((0, "d"), C, B, A))
        for call in (sticks, ends):
            with self.assertRaises(TooMany):
                call(WIDE, needs)

    def test_one_hand_never_is_refused(self):
        rows = tuple(("need", name) for name in "abcde")
        world = tuple(
            (None, tuple(some_class(name, "a" if name > "a" else None, (), rows) for name in "abcd")) for loader in range(4)
        )
        needs = (tuple((loader, "d") for loader in range(4)),)
        self.assertIsNone(sticks(world, needs))
        self.assertEqual(len(ends(world, needs)), 1)

    def test_an_order_that_sticks_early_is_told(self):
        # More than 400 halls come, but hands are stuck long ahead of them.
        needs = ((A, C, C, C), (B, C, C, C), (NONE, NONE, NONE, C))
        self.assertGreater(len(all_halls(crossed_world(), needs)), MOST)
        order = sticks(crossed_world(), needs)
        self.assertEqual(len(order), 7)
        self.assertNotEqual(run(crossed_world(), needs, order)[0].stuck(), [])
        with self.assertRaises(TooMany):
            ends(crossed_world(), needs)


class Refusals(unittest.TestCase):
    def test_no_world(self):
        for call in (sticks, ends):
            for world in NO_WORLDS + (True, ((None, ()), (1, ()))):
                for needs in (crossed_needs(), None, (), True):
                    with self.subTest(world, needs=needs), self.assertRaises(NoWorld):
                        call(world, needs)
            for number, world in enumerate(wrong_everywhere()):
                for place, needs in enumerate(wrong_everywhere()):
                    with self.subTest(number, needs=place), self.assertRaises(NoWorld):
                        call(world, needs)

    def test_no_needs(self):
        for call in (sticks, ends):
            for number, needs in enumerate(wrong_needs()):
                with self.subTest(number), self.assertRaises(NoNeeds):
                    call(crossed_world(), needs)
            for needs in ((((True, "a"),),), (((0, "a"),), ((False, "b"),)), ((), (), (), ())):
                with self.subTest(needs), self.assertRaises(NoNeeds):
                    call(crossed_world(), needs)


class NothingChangedOrKept(unittest.TestCase):
    def test_what_was_handed_in_is_as_before(self):
        world = crossed_world()
        needs = crossed_needs()
        before = copy.deepcopy((world, needs))
        sticks(world, needs)
        ends(world, needs)
        self.assertEqual((world, needs), before)

    def test_told_lists_are_new_ones(self):
        for call in (sticks, ends):
            check_new_lists(self, lambda: call(crossed_world(), crossed_needs()))

    def test_equal_things_give_equal_answers(self):
        chance = random.Random(32)
        for number in range(20):
            world = needy_world(chance)
            needs = random_needs(chance, world, 2)
            like = copy.deepcopy((world, needs))
            for call in (sticks, ends):
                self.assertEqual(call(world, needs), call(*like))


if __name__ == "__main__":
    unittest.main()
