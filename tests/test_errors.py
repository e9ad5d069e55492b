"""Point 6: the classes of the refusals."""

import unittest

from deedsheaf import errors

PLAIN = ("NoDay", "NoDeed", "NoAct", "NoEntry", "NoName", "TooMany", "Missing", "NoForms", "NoDraft", "NoCopy",
         "NoSize", "NoWords", "NoFolk", "NoAge", "NothingDone", "NoText", "NoRow")
FIELDS = {"Twice": "at", "Named": "by"}


class Classes(unittest.TestCase):
    def test_the_head_stands_straight_under_value_error(self):
        self.assertEqual(errors.SheafError.__bases__, (ValueError,))

    def test_each_stands_straight_under_the_head_and_under_no_other(self):
        classes = [getattr(errors, name) for name in (*PLAIN, *FIELDS)]
        for one in classes:
            self.assertEqual(one.__bases__, (errors.SheafError,))
            for other in classes:
                self.assertEqual(issubclass(one, other), one == other)

    def test_there_are_no_more_classes_than_listed(self):
        found = {name for name in dir(errors) if isinstance(getattr(errors, name), type)}
        self.assertEqual(found, {"SheafError", *PLAIN, *FIELDS})


class Objects(unittest.TestCase):
    def test_each_is_made_with_a_text(self):
        for name in PLAIN:
            made = getattr(errors, name)("why so")
            self.assertEqual(str(made), "why so")
            self.assertIsInstance(made, errors.SheafError)
            self.assertIsInstance(made, ValueError)

    def test_the_head_is_made_with_a_text(self):
        self.assertEqual(str(errors.SheafError("why so")), "why so")

    def test_the_fields(self):
        for name, field in FIELDS.items():
            for made in (getattr(errors, name)(7), getattr(errors, name)(**{field: 7})):
                self.assertEqual(getattr(made, field), 7)
                self.assertIsInstance(made, errors.SheafError)
                self.assertIsInstance(made, ValueError)
                self.assertIsInstance(str(made), str)

    def test_each_is_caught_by_its_own_name(self):
        for name in (*PLAIN, *FIELDS):
            one = getattr(errors, name)
            with self.assertRaises(one):
                raise one(3 if name in FIELDS else "why so")


if __name__ == "__main__":
    unittest.main()
