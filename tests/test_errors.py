import unittest

from loaders import errors

NAMES = (
    "NoWorld", "NoLoader", "NoClass", "NotLinked", "NoNeeds",
    "NoHand", "NoOrder", "NoFile", "TooMany", "NoText",
)


class Errors(unittest.TestCase):
    def test_any_refusal_is_a_value_error(self):
        self.assertEqual(errors.LoadError.__bases__, (ValueError,))

    def test_each_stands_straight_under_load_error(self):
        for name in NAMES:
            with self.subTest(name):
                self.assertEqual(getattr(errors, name).__bases__, (errors.LoadError,))

    def test_none_stands_under_another(self):
        for name in NAMES:
            for other in NAMES:
                if name != other:
                    with self.subTest(name, other=other):
                        self.assertFalse(issubclass(getattr(errors, name), getattr(errors, other)))

    def test_each_is_raised_and_taken(self):
        for name in NAMES:
            with self.subTest(name):
                refusal = getattr(errors, name)
                with self.assertRaises(errors.LoadError) as taken:
                    raise refusal("words")
                self.assertIs(taken.exception.__class__, refusal)

    def test_not_linked_has_its_why(self):
        for why in (("lacks", "a"), ("kind", "b"), ("ring", "c")):
            with self.subTest(why):
                self.assertEqual(errors.NotLinked(why).why, why)

    def test_each_not_linked_has_a_why_of_its_own(self):
        one = errors.NotLinked(("lacks", "a"))
        errors.NotLinked(("ring", "b"))
        self.assertEqual(one.why, ("lacks", "a"))


if __name__ == "__main__":
    unittest.main()
