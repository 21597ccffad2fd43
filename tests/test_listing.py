"""Point 79."""

import unittest

from drawnlayers.ink.listing import FullListing, Listing, NumberedListing, TitledListing
from drawnlayers.whole.picture import draw

BOXES = (("a", 0, 0, 3, 3), ("abcdef", -5, 123456, 1234567, -1234567), ("bc", 10 ** 39, -10 ** 39, 1, 22))
ROWS = [
    "a          0     0     3     3",
    "abcdef    -51234561234567-1234567",
    "bc    1" + "0" * 39 + "-1" + "0" * 39 + "     1    22",
]
CLASSES = (Listing, NumberedListing, TitledListing, FullListing)


class ListingTest(unittest.TestCase):
    def test_rows(self):
        self.assertEqual(Listing(BOXES).rows(), ROWS)

    def test_the_example(self):
        self.assertEqual(Listing(draw("edge a b").boxes()).rows()[0], "a          0     0     3     3")

    def test_numbered_rows(self):
        self.assertEqual(NumberedListing(BOXES).rows(), ["  0: " + ROWS[0], "  1: " + ROWS[1], "  2: " + ROWS[2]])

    def test_titled_rows(self):
        self.assertEqual(TitledListing(BOXES).rows(), ["boxes: 3", *ROWS])

    def test_full_rows(self):
        self.assertEqual(FullListing(BOXES).rows(), ["  0: boxes: 3", "  1: " + ROWS[0], "  2: " + ROWS[1], "  3: " + ROWS[2]])

    def test_no_boxes(self):
        for boxes in ((), []):
            self.assertEqual([kind(boxes).rows() for kind in CLASSES], [[], [], ["boxes: 0"], ["  0: boxes: 0"]])

    def test_many_boxes(self):
        boxes = [("z", at, 0, 1, 1) for at in range(1001)]
        self.assertEqual([kind(boxes).rows()[-1] for kind in CLASSES], [
            "z       1000     0     1     1", "1000: z       1000     0     1     1", "z       1000     0     1     1",
            "1001: z       1000     0     1     1",
        ])
        self.assertEqual(NumberedListing(boxes).rows()[99], " 99: z         99     0     1     1")
        self.assertEqual(FullListing(boxes).rows()[0], "  0: boxes: 1001")

    def test_a_list_that_is_passed_in_is_copied(self):
        for kind in CLASSES:
            boxes = list(BOXES)
            listing = kind(boxes)
            before = listing.rows()
            boxes.clear()
            before_too = listing.rows()
            self.assertEqual(before, before_too)
            before.clear()
            self.assertEqual(listing.rows(), before_too)

    def test_each_class_has_its_own_rows(self):
        for kind in CLASSES:
            self.assertIn("rows", vars(kind))
        self.assertEqual((NumberedListing.__bases__, TitledListing.__bases__), ((Listing,), (Listing,)))
        self.assertEqual(FullListing.__bases__, (NumberedListing, TitledListing))


if __name__ == "__main__":
    unittest.main()
