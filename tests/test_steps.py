import unittest

from hall_samples import (
    ENDS, IDLE, NEW, READY, crossed_needs, crossed_world, turning_needs, turning_world, until_idle,
)
from loaders.hall import Hall
from samples import one_shelf, some_class, some_face, world_of_names

A = (0, "a")
B = (0, "b")
C = (0, "c")
D = (0, "d")


def rows_of(name, *rows):
    return some_class(name, None, (), rows)


class Steps(unittest.TestCase):
    def does(self, hall, number, *told):
        """Each step tells the next one of these."""
        for place, one in enumerate(told):
            self.assertEqual(hall.step(number), one, f"step {place}")

    def ends_with(self, world, needs, told, heard):
        """One hand alone, from its first step to idle, tells and is told this."""
        hall = Hall(world, (needs,))
        self.assertEqual(until_idle(hall, 0), told + [IDLE])
        self.assertEqual(hall.told(0), heard)
        self.does(hall, 0, IDLE, IDLE)
        self.assertEqual(hall.told(0), heard)
        self.assertTrue(hall.is_idle(0))
        return hall


class OneHand(Steps):
    def test_no_needs(self):
        self.ends_with(one_shelf(), (), [], [])

    def test_a_class_without_rows(self):
        hall = Hall(one_shelf(rows_of("a")), ((A,),))
        for told, state, heard, idle in (
            (("asks", A), NEW, [], False),
            (("begin", A), ("work", 0), [], False),
            (("ready", A), READY, [], False),
            (ENDS, READY, [("ready", A)], True),
            (IDLE, READY, [("ready", A)], True),
        ):
            self.does(hall, 0, told)
            self.assertEqual(hall.state(A), state)
            self.assertEqual(hall.told(0), heard)
            self.assertIs(hall.is_idle(0), idle)

    def test_before_the_first_step(self):
        hall = Hall(one_shelf(rows_of("a", ("put", "x", 1))), ((A,),))
        self.assertEqual(hall.state(A), NEW)
        self.assertEqual(hall.field(A, "x"), 0)
        self.assertEqual(hall.told(0), [])
        self.assertEqual(hall.notes(), [])
        self.assertEqual(hall.stuck(), [])
        self.assertFalse(hall.is_idle(0))
        self.assertIsNone(hall.waits_for(0))

    def test_rows_of_all_kinds(self):
        world = one_shelf(
            rows_of("a", ("put", "x", 5), ("read", "y", "b", "z"), ("need", "b"), ("note", "hi"), ("put", "x", 7)),
            rows_of("b", ("put", "z", 9)),
        )
        hall = Hall(world, ((A,),))
        self.does(hall, 0, ("asks", A), ("begin", A))
        self.assertEqual(hall.field(A, "x"), 0)
        self.does(hall, 0, ("row", A))
        self.assertEqual(hall.field(A, "x"), 5)
        self.does(hall, 0, ("asks", B))
        self.assertEqual(hall.state(B), NEW)
        self.does(hall, 0, ("begin", B))
        self.assertEqual((hall.state(A), hall.state(B)), (("work", 0), ("work", 0)))
        self.does(hall, 0, ("row", B), ("ready", B))
        self.assertEqual((hall.state(A), hall.state(B)), (("work", 0), READY))
        self.assertEqual((hall.field(A, "y"), hall.field(B, "z")), (0, 9))
        self.does(hall, 0, ("row", A))
        self.assertEqual((hall.field(A, "y"), hall.field(B, "z")), (9, 9))
        self.does(hall, 0, ("asks", B), ("known", B), ("row", A))
        self.assertEqual(hall.notes(), [])
        self.does(hall, 0, ("row", A))
        self.assertEqual(hall.notes(), [(A, "hi")])
        self.does(hall, 0, ("row", A))
        self.assertEqual(hall.field(A, "x"), 7)
        self.assertEqual(hall.state(A), ("work", 0))
        self.does(hall, 0, ("ready", A), ENDS, IDLE)
        self.assertEqual(hall.state(A), READY)
        self.assertEqual(hall.told(0), [("ready", A)])

    def test_one_above(self):
        world = one_shelf(some_class("a", "b", (), (("note", "low"),)), rows_of("b", ("note", "high")))
        hall = self.ends_with(
            world, (A,),
            [
                ("asks", A), ("begin", A), ("asks", B), ("begin", B), ("row", B), ("ready", B), ("row", A),
                ("row", A), ("ready", A), ENDS,
            ],
            [("ready", A)],
        )
        self.assertEqual(hall.notes(), [(B, "high"), (A, "low")])

    def test_one_above_that_is_ready(self):
        world = one_shelf(some_class("a", "b"), rows_of("b"))
        self.ends_with(
            world, (B, A),
            [
                ("asks", B), ("begin", B), ("ready", B), ENDS,
                ("asks", A), ("begin", A), ("asks", B), ("known", B), ("row", A), ("ready", A), ENDS,
            ],
            [("ready", B), ("ready", A)],
        )

    def test_two_above(self):
        world = one_shelf(some_class("a", "b"), some_class("b", "c"), rows_of("c"))
        self.ends_with(
            world, (A,),
            [
                ("asks", A), ("begin", A), ("asks", B), ("begin", B), ("asks", C), ("begin", C), ("ready", C),
                ("row", B), ("ready", B), ("row", A), ("ready", A), ENDS,
            ],
            [("ready", A)],
        )

    def test_faces_of_a_class_are_not_set_up(self):
        world = one_shelf(some_class("a", None, ("b",)), some_face("b", ("c",), (("note", "no"),)), some_face("c"))
        hall = self.ends_with(world, (A,), [("asks", A), ("begin", A), ("ready", A), ENDS], [("ready", A)])
        self.assertEqual((hall.state(B), hall.state(C), hall.notes()), (NEW, NEW, []))

    def test_a_face_that_is_needed_is_set_up(self):
        world = one_shelf(rows_of("a", ("need", "b")), some_face("b", (), (("note", "hi"),)))
        hall = self.ends_with(
            world, (A,),
            [("asks", A), ("begin", A), ("asks", B), ("begin", B), ("row", B), ("ready", B), ("row", A), ("ready", A),
             ENDS],
            [("ready", A)],
        )
        self.assertEqual(hall.notes(), [(B, "hi")])

    def test_a_need_told_twice(self):
        self.ends_with(
            one_shelf(rows_of("a")), (A, A),
            [("asks", A), ("begin", A), ("ready", A), ENDS, ("asks", A), ("known", A), ENDS],
            [("ready", A), ("ready", A)],
        )

    def test_needs_are_found_parents_first(self):
        world = world_of_names((None, "a"), (0, "a b"))
        self.ends_with(
            world, ((1, "a"), (1, "b")),
            [("asks", A), ("begin", A), ("ready", A), ENDS, ("asks", (1, "b")), ("begin", (1, "b")),
             ("ready", (1, "b")), ENDS],
            [("ready", A), ("ready", (1, "b"))],
        )

    def test_like_names_of_unlike_loaders_are_set_up_each(self):
        file = rows_of("a", ("put", "x", 4), ("read", "y", "b", "x"))
        world = ((None, (file, rows_of("b", ("put", "x", 1)))), (None, (file, rows_of("b", ("put", "x", 2)))))
        hall = Hall(world, (((1, "a"),),))
        told = until_idle(hall, 0)
        self.assertEqual(told[:2], [("asks", (1, "a")), ("begin", (1, "a"))])
        self.assertIn(("begin", (1, "b")), told)
        self.assertEqual((hall.state((0, "a")), hall.state((0, "b"))), (NEW, NEW))
        self.assertEqual((hall.field((1, "a"), "x"), hall.field((1, "a"), "y")), (4, 2))
        self.assertEqual((hall.field((0, "a"), "x"), hall.field((0, "a"), "y")), (0, 0))

    def test_names_in_a_file_are_found_by_its_loader(self):
        world = ((None, (rows_of("a", ("need", "b")),)), (0, (rows_of("b"),)))
        why = ("lacks", A, "b")
        self.ends_with(
            world, ((1, "a"),), [("asks", A), ("begin", A), ("failed", A), ENDS], [("failed", A, why)],
        )


class OneHandFails(Steps):
    def test_a_row_fail(self):
        why = ("fail", A, "worn")
        hall = self.ends_with(
            one_shelf(rows_of("a", ("put", "x", 6), ("fail", "worn"), ("put", "x", 8))), (A,),
            [("asks", A), ("begin", A), ("row", A), ("failed", A), ENDS], [("failed", A, why)],
        )
        self.assertEqual(hall.state(A), ("failed", why))
        self.assertEqual(hall.field(A, "x"), 6)

    def test_failing_goes_down_one_class_a_step(self):
        world = one_shelf(
            rows_of("a", ("need", "b"), ("note", "no")), some_class("b", "c", (), (("note", "no"),)),
            rows_of("c", ("read", "x", "d", "x"), ("note", "no")), rows_of("d", ("note", "yes"), ("fail", "worn")),
        )
        why = ("fail", D, "worn")
        hall = Hall(world, ((A, D),))
        self.does(hall, 0, ("asks", A), ("begin", A), ("asks", B), ("begin", B), ("asks", C), ("begin", C))
        self.does(hall, 0, ("asks", D), ("begin", D), ("row", D))
        for told, states in (
            (("failed", D), [("work", 0), ("work", 0), ("work", 0), ("failed", why)]),
            (("failed", C), [("work", 0), ("work", 0), ("failed", why), ("failed", why)]),
            (("failed", B), [("work", 0), ("failed", why), ("failed", why), ("failed", why)]),
            (("failed", A), [("failed", why)] * 4),
        ):
            self.assertEqual(hall.told(0), [])
            self.does(hall, 0, told)
            self.assertEqual([hall.state(thing) for thing in (A, B, C, D)], states)
        self.does(hall, 0, ENDS)
        self.assertEqual(hall.told(0), [("failed", A, why)])
        self.does(hall, 0, ("asks", D), ("dead", D), ENDS, IDLE)
        self.assertEqual(hall.told(0), [("failed", A, why), ("failed", D, why)])
        self.assertEqual(hall.notes(), [(D, "yes")])

    def test_a_need_that_is_not_found(self):
        world = world_of_names((None, "a"), (0, "b"))
        self.ends_with(
            world, ((0, "b"), (1, "no"), (1, "b")),
            [ENDS, ENDS, ("asks", (1, "b")), ("begin", (1, "b")), ("ready", (1, "b")), ENDS],
            [("lacks", 0, "b"), ("lacks", 1, "no"), ("ready", (1, "b"))],
        )

    def test_a_last_need_that_is_not_found(self):
        hall = Hall(one_shelf(), (((0, "a"),),))
        self.assertFalse(hall.is_idle(0))
        self.does(hall, 0, ENDS)
        self.assertTrue(hall.is_idle(0))
        self.does(hall, 0, IDLE)
        self.assertEqual(hall.told(0), [("lacks", 0, "a")])

    def test_a_name_in_a_row_that_is_not_found(self):
        for row in (("need", "no"), ("read", "x", "no", "y")):
            with self.subTest(row):
                why = ("lacks", B, "no")
                hall = self.ends_with(
                    one_shelf(rows_of("a", ("need", "b")), rows_of("b", ("put", "x", 1), row)), (A,),
                    [("asks", A), ("begin", A), ("asks", B), ("begin", B), ("row", B), ("failed", B), ("failed", A),
                     ENDS],
                    [("failed", A, why)],
                )
                self.assertEqual((hall.state(A), hall.state(B)), (("failed", why), ("failed", why)))
                self.assertEqual(hall.field(B, "x"), 1)

    def test_a_class_that_cannot_be_linked(self):
        for above, faces, word, name in (
            ("no", (), "lacks", "no"), ("f", (), "kind", "f"), ("a", (), "ring", "a"), ("b", (), "lacks", "no"),
            (None, ("nor",), "lacks", "nor"), (None, ("b",), "kind", "b"),
        ):
            with self.subTest(above, faces=faces):
                world = one_shelf(some_class("a", above, faces, (("note", "no"),)), some_class("b", "no"), some_face("f"))
                why = (word, A, name)
                hall = self.ends_with(world, (A,), [("asks", A), ("failed", A), ENDS], [("failed", A, why)])
                self.assertEqual(hall.state(A), ("failed", why))
                self.assertEqual((hall.state(B), hall.notes()), (NEW, []))

    def test_a_row_that_needs_one_that_cannot_be_linked(self):
        for row in (("need", "b"), ("read", "x", "b", "y")):
            with self.subTest(row):
                why = ("lacks", B, "no")
                hall = self.ends_with(
                    one_shelf(rows_of("a", row), some_class("b", "no")), (A, C, B),
                    [("asks", A), ("begin", A), ("asks", B), ("failed", B), ("failed", A), ENDS, ENDS,
                     ("asks", B), ("dead", B), ENDS],
                    [("failed", A, why), ("lacks", 0, "c"), ("failed", B, why)],
                )
                self.assertEqual((hall.state(A), hall.state(B)), (("failed", why), ("failed", why)))

    def test_a_failed_class_needed_again(self):
        world = one_shelf(rows_of("a", ("fail", "worn")), rows_of("b", ("need", "a")), some_class("c", "a"))
        why = ("fail", A, "worn")
        hall = self.ends_with(
            world, (A, A, B, C),
            [
                ("asks", A), ("begin", A), ("failed", A), ENDS,
                ("asks", A), ("dead", A), ENDS,
                ("asks", B), ("begin", B), ("asks", A), ("dead", A), ("failed", B), ENDS,
                ("asks", C), ("begin", C), ("asks", A), ("dead", A), ("failed", C), ENDS,
            ],
            [("failed", A, why), ("failed", A, why), ("failed", B, why), ("failed", C, why)],
        )
        self.assertEqual([hall.state(thing) for thing in (A, B, C)], [("failed", why)] * 3)

    def test_a_failed_class_read_of_again(self):
        world = one_shelf(rows_of("a", ("put", "x", 2), ("fail", "worn")), rows_of("b", ("read", "x", "a", "x")))
        why = ("fail", A, "worn")
        hall = self.ends_with(
            world, (A, B),
            [("asks", A), ("begin", A), ("row", A), ("failed", A), ENDS,
             ("asks", B), ("begin", B), ("asks", A), ("dead", A), ("failed", B), ENDS],
            [("failed", A, why), ("failed", B, why)],
        )
        self.assertEqual(hall.field(B, "x"), 0)

    def test_failing_is_over_with_the_need(self):
        world = one_shelf(rows_of("a", ("fail", "worn")), rows_of("b", ("note", "hi")))
        self.ends_with(
            world, (A, B),
            [("asks", A), ("begin", A), ("failed", A), ENDS, ("asks", B), ("begin", B), ("row", B), ("ready", B), ENDS],
            [("failed", A, ("fail", A, "worn")), ("ready", B)],
        )


class OneHandInRings(Steps):
    def test_a_class_that_needs_itself(self):
        for row in (("need", "a"), ("read", "y", "a", "x")):
            with self.subTest(row):
                hall = self.ends_with(
                    one_shelf(rows_of("a", ("put", "x", 5), row, ("put", "x", 6))), (A,),
                    [("asks", A), ("begin", A), ("row", A), ("asks", A), ("known", A), ("row", A), ("row", A),
                     ("ready", A), ENDS],
                    [("ready", A)],
                )
                self.assertEqual(hall.field(A, "y"), 5 if row[0] == "read" else 0)

    def test_a_ring_of_two_with_a_field_as_it_is_then(self):
        world = one_shelf(
            rows_of("a", ("put", "x", 1), ("need", "b"), ("put", "x", 2)), rows_of("b", ("read", "y", "a", "x")),
            rows_of("c", ("read", "y", "a", "x")),
        )
        hall = self.ends_with(
            world, (A, C),
            [
                ("asks", A), ("begin", A), ("row", A), ("asks", B), ("begin", B), ("asks", A), ("known", A), ("row", B),
                ("ready", B), ("row", A), ("row", A), ("ready", A), ENDS,
                ("asks", C), ("begin", C), ("asks", A), ("known", A), ("row", C), ("ready", C), ENDS,
            ],
            [("ready", A), ("ready", C)],
        )
        self.assertEqual((hall.field(B, "y"), hall.field(C, "y")), (1, 2))

    def test_one_above_that_needs_the_one_below(self):
        world = one_shelf(some_class("a", "b"), rows_of("b", ("need", "a")))
        self.ends_with(
            world, (A,),
            [("asks", A), ("begin", A), ("asks", B), ("begin", B), ("asks", A), ("known", A), ("row", B), ("ready", B),
             ("row", A), ("ready", A), ENDS],
            [("ready", A)],
        )


class Fields(Steps):
    def test_never_given_a_number(self):
        hall = Hall(one_shelf(rows_of("a", ("put", "x", 5)), rows_of("b")), ((A,),))
        until_idle(hall, 0)
        self.assertEqual((hall.field(A, "x"), hall.field(A, "y"), hall.field(B, "x")), (5, 0, 0))

    def test_read_of_one_never_given_a_number(self):
        world = one_shelf(rows_of("a", ("put", "x", 5), ("read", "x", "b", "none")), rows_of("b", ("put", "x", 9)))
        hall = Hall(world, ((A,),))
        until_idle(hall, 0)
        self.assertEqual(hall.field(A, "x"), 0)

    def test_read_takes_the_field_of_the_other_class(self):
        world = one_shelf(
            rows_of("a", ("put", "y", 5), ("put", "x", 6), ("read", "z", "b", "y")),
            rows_of("b", ("put", "x", 7), ("put", "y", 8), ("put", "z", 9)),
        )
        hall = Hall(world, ((A,),))
        until_idle(hall, 0)
        self.assertEqual([hall.field(A, name) for name in "xyz"], [6, 5, 8])
        self.assertEqual([hall.field(B, name) for name in "xyz"], [7, 8, 9])

    def test_edges_of_numbers(self):
        world = one_shelf(rows_of("a", ("put", "x", 99), ("put", "y", 99), ("put", "y", 0), ("read", "z", "a", "x")))
        hall = Hall(world, ((A,),))
        until_idle(hall, 0)
        self.assertEqual([hall.field(A, name) for name in "xyz"], [99, 0, 99])

    def test_notes_in_their_order(self):
        world = one_shelf(
            rows_of("a", ("note", "one"), ("need", "b"), ("note", "one")), rows_of("b", ("note", "two"), ("note", "one")),
        )
        hall = Hall(world, ((A,), (B,)))
        until_idle(hall, 0)
        self.assertEqual(hall.notes(), [(A, "one"), (B, "two"), (B, "one"), (A, "one")])


class SeveralHands(Steps):
    def test_waits_and_goes_on_when_it_is_ready(self):
        hall = Hall(one_shelf(rows_of("a", ("note", "hi"))), ((A,), (A,)))
        self.does(hall, 0, ("asks", A))
        self.does(hall, 1, ("asks", A))
        self.assertIsNone(hall.waits_for(1))
        self.does(hall, 0, ("begin", A))
        self.assertEqual((hall.waits_for(0), hall.waits_for(1)), (None, 0))
        self.does(hall, 1, ("waits", A), ("waits", A))
        self.assertEqual(hall.state(A), ("work", 0))
        self.does(hall, 0, ("row", A))
        self.does(hall, 1, ("waits", A))
        self.does(hall, 0, ("ready", A))
        self.assertIsNone(hall.waits_for(1))
        self.does(hall, 1, ("known", A), ENDS, IDLE)
        self.does(hall, 0, ENDS, IDLE)
        self.assertEqual((hall.told(0), hall.told(1)), ([("ready", A)], [("ready", A)]))
        self.assertEqual(hall.notes(), [(A, "hi")])

    def test_whoever_comes_first_begins(self):
        hall = Hall(one_shelf(rows_of("a")), ((A,), (A,)))
        self.does(hall, 1, ("asks", A), ("begin", A))
        self.assertEqual(hall.state(A), ("work", 1))
        self.does(hall, 0, ("asks", A), ("waits", A))
        self.assertEqual((hall.waits_for(0), hall.waits_for(1)), (1, None))

    def test_waits_and_goes_on_when_it_has_failed(self):
        world = one_shelf(rows_of("a", ("fail", "worn")), rows_of("b", ("put", "x", 1), ("need", "a"), ("note", "no")))
        why = ("fail", A, "worn")
        hall = Hall(world, ((A,), (B,)))
        self.does(hall, 0, ("asks", A), ("begin", A))
        self.does(hall, 1, ("asks", B), ("begin", B), ("row", B), ("asks", A), ("waits", A))
        self.does(hall, 0, ("failed", A))
        self.assertIsNone(hall.waits_for(1))
        self.assertEqual(hall.state(B), ("work", 1))
        self.does(hall, 1, ("dead", A), ("failed", B), ENDS, IDLE)
        self.assertEqual(hall.told(0), [])
        self.does(hall, 0, ENDS, IDLE)
        self.assertEqual((hall.told(0), hall.told(1)), ([("failed", A, why)], [("failed", B, why)]))

    def test_one_that_another_hand_found_not_to_be_linked(self):
        hall = Hall(one_shelf(some_class("a", "no")), ((A,), (A,)))
        self.does(hall, 0, ("asks", A))
        self.does(hall, 1, ("asks", A), ("failed", A))
        self.does(hall, 0, ("dead", A), ENDS, IDLE)
        self.does(hall, 1, ENDS, IDLE)
        why = ("lacks", A, "no")
        self.assertEqual((hall.told(0), hall.told(1)), ([("failed", A, why)], [("failed", A, why)]))

    def test_a_failure_is_one_hands_own(self):
        world = one_shelf(rows_of("a", ("fail", "worn")), rows_of("b", ("note", "hi")))
        hall = Hall(world, ((A,), (B,)))
        self.does(hall, 0, ("asks", A), ("begin", A))
        self.does(hall, 1, ("asks", B), ("begin", B))
        self.does(hall, 0, ("failed", A))
        self.does(hall, 1, ("row", B), ("ready", B), ENDS, IDLE)
        self.does(hall, 0, ENDS, IDLE)

    def test_two_that_wait_for_one_another(self):
        hall = Hall(crossed_world(), crossed_needs())
        self.does(hall, 0, ("asks", A), ("begin", A))
        self.does(hall, 1, ("asks", B), ("begin", B), ("row", B), ("asks", A), ("waits", A))
        self.assertEqual(hall.stuck(), [])
        self.does(hall, 0, ("asks", B), ("waits", B))
        for number in range(3):
            self.does(hall, 1, ("waits", A))
            self.does(hall, 0, ("waits", B))
        self.assertEqual((hall.waits_for(0), hall.waits_for(1)), (1, 0))
        self.assertEqual((hall.state(A), hall.state(B)), (("work", 0), ("work", 1)))
        self.assertEqual((hall.told(0), hall.told(1), hall.notes()), ([], [], []))

    def test_the_same_world_in_another_order(self):
        hall = Hall(crossed_world(), crossed_needs())
        self.assertEqual(until_idle(hall, 0)[-2:], [ENDS, IDLE])
        self.assertEqual(until_idle(hall, 1), [("asks", B), ("known", B), ENDS, IDLE])
        self.assertEqual(hall.notes(), [(B, "two"), (A, "one")])

    def test_three_that_wait_for_one_another(self):
        hall = Hall(turning_world(), turning_needs())
        for number, thing, other in ((0, A, B), (1, B, C), (2, C, A)):
            self.does(hall, number, ("asks", thing), ("begin", thing))
        for number, thing, other in ((0, A, B), (1, B, C), (2, C, A)):
            self.assertEqual(hall.stuck(), [])
            self.does(hall, number, ("asks", other))
        for number, thing, other in ((0, A, B), (1, B, C), (2, C, A)):
            self.does(hall, number, ("waits", other), ("waits", other))
        self.assertEqual([hall.waits_for(number) for number in range(3)], [1, 2, 0])

    def test_one_waits_for_one_that_waits_for_one(self):
        world = one_shelf(rows_of("a"), rows_of("b", ("need", "a")), rows_of("c", ("need", "b")))
        hall = Hall(world, ((A,), (B,), (C,)))
        self.does(hall, 0, ("asks", A), ("begin", A))
        self.does(hall, 1, ("asks", B), ("begin", B), ("asks", A), ("waits", A))
        self.does(hall, 2, ("asks", C), ("begin", C), ("asks", B), ("waits", B))
        self.assertEqual([hall.waits_for(number) for number in range(3)], [None, 0, 1])
        self.does(hall, 0, ("ready", A), ENDS, IDLE)
        self.does(hall, 2, ("waits", B))
        self.does(hall, 1, ("known", A), ("row", B), ("ready", B), ENDS, IDLE)
        self.does(hall, 2, ("known", B), ("row", C), ("ready", C), ENDS, IDLE)


if __name__ == "__main__":
    unittest.main()
