"""Point 4."""

import unittest

from drawnlayers import errors

WITHOUT = ("NothingToUndo", "NothingToRedo", "ZeroBottom")
WITH = {
    "BadLine": ("line",), "BadPlace": ("line",), "NameTaken": ("line",), "NoName": ("line",), "TooLarge": ("line",),
    "LoopLabel": ("line",), "FlatEdge": ("line",), "FirmRing": ("line",), "Unclosed": ("line",), "BadOption": ("key",),
    "NoPair": ("a", "b"), "SizesDiffer": ("first", "second"), "NotTurned": ("edge",), "RisingRing": ("ring",),
    "Crossed": ("walk",), "EmptySpan": ("low", "high"), "BadMark": ("row",), "TooWide": ("name",),
    "NoGraph": ("name",), "NoLine": ("number",), "Refused": ("index",), "BadDeed": ("line",),
}


class ErrorsTest(unittest.TestCase):
    def test_the_class_above(self):
        self.assertTrue(issubclass(errors.DrawError, ValueError))

    def test_each_named_class_stands_directly_under_it(self):
        for name in (*WITHOUT, *WITH):
            self.assertEqual(getattr(errors, name).__bases__, (errors.DrawError,), name)

    def test_no_named_class_is_another_one(self):
        names = (*WITHOUT, *WITH)
        for one in names:
            for other in names:
                if one != other:
                    self.assertFalse(issubclass(getattr(errors, one), getattr(errors, other)))

    def test_attributes_by_position(self):
        for name, attributes in WITH.items():
            told = tuple(("what", at) for at in range(len(attributes)))
            error = getattr(errors, name)(*told)
            self.assertEqual(tuple(getattr(error, attribute) for attribute in attributes), told)
            self.assertIsInstance(error, errors.DrawError)
            self.assertIsInstance(error, ValueError)

    def test_classes_without_attributes(self):
        for name in WITHOUT:
            self.assertIsInstance(getattr(errors, name)(), ValueError)
            with self.assertRaises(TypeError):
                raise_with_more = getattr(errors, name)
                raise_with_more(line=1)

    def test_they_can_be_raised_and_caught_as_the_class_above(self):
        for name, attributes in WITH.items():
            with self.assertRaises(errors.DrawError):
                raise getattr(errors, name)(*attributes)


if __name__ == "__main__":
    unittest.main()
