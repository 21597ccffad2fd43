"""Points 70 and 71: leads and where they meet."""

import itertools
import unittest
from fractions import Fraction

from drawnlayers.ways.leads import Lead
from drawnlayers.ways.ratios import Ratio

FAR = 10 ** 6


def pair_of(ratio):
    return (ratio.top, ratio.bottom)


class LeadsTest(unittest.TestCase):
    def test_attributes(self):
        lead = Lead(-FAR, FAR)
        self.assertEqual((lead.x0, lead.x1), (-FAR, FAR))
        lead = Lead(x1=2, x0=1)
        self.assertEqual((lead.x0, lead.x1), (1, 2))

    def test_the_x_at_a_share(self):
        for x0, x1 in ((0, 4), (4, 0), (-3, 8), (5, 5), (FAR, -FAR), (-FAR, -FAR)):
            for share in (0, 1, 2, -1, Ratio(0), Ratio(1, 2), Ratio(1, 3), Ratio(7, 5), Ratio(-2, 9)):
                worth = Fraction(share.top, share.bottom) if isinstance(share, Ratio) else Fraction(share)
                x = Lead(x0, x1)(share)
                self.assertIs(type(x), Ratio)
                self.assertEqual(pair_of(x), (x0 + (x1 - x0) * worth).as_integer_ratio())

    def test_the_example(self):
        share, x = Lead(0, 4).meeting(Lead(1, 0))
        self.assertEqual((pair_of(share), pair_of(x)), ((1, 5), (4, 5)))

    def test_all_small_leads(self):
        for x0, x1, y0, y1 in itertools.product(range(-2, 3), repeat=4):
            one, other = Lead(x0, x1), Lead(y0, y1)
            meeting = one.meeting(other)
            if not ((x0 < y0 and x1 > y1) or (x0 > y0 and x1 < y1)):
                self.assertIsNone(meeting)
                continue
            self.assertIs(type(meeting), tuple)
            share, x = meeting
            self.assertTrue(Ratio(0).below(share) and share.below(1))
            # The one share at which both are at the same x.
            self.assertEqual(pair_of(share), Fraction(y0 - x0, (x1 - x0) - (y1 - y0)).as_integer_ratio())
            self.assertTrue(x.same(one(share)) and x.same(other(share)))
            back = other.meeting(one)
            self.assertEqual((pair_of(back[0]), pair_of(back[1])), (pair_of(share), pair_of(x)))
            self.assertEqual((one.x0, one.x1, other.x0, other.x1), (x0, x1, y0, y1))

    def test_leads_with_a_common_end_do_not_meet(self):
        for other in (Lead(0, 9), Lead(0, -9), Lead(9, 4), Lead(-9, 4), Lead(0, 4), Lead(0, 0), Lead(4, 4)):
            self.assertIsNone(Lead(0, 4).meeting(other))
            self.assertIsNone(other.meeting(Lead(0, 4)))

    def test_an_upright_lead(self):
        share, x = Lead(2, 12).meeting(Lead(5, 5))
        self.assertEqual((pair_of(share), pair_of(x)), ((3, 10), (5, 1)))
        self.assertIsNone(Lead(2, 12).meeting(Lead(12, 12)))
        self.assertIsNone(Lead(2, 2).meeting(Lead(3, 3)))

    def test_the_farthest_leads(self):
        share, x = Lead(-FAR, FAR).meeting(Lead(FAR, -FAR))
        self.assertEqual((pair_of(share), pair_of(x)), ((1, 2), (0, 1)))
        share, x = Lead(-FAR, FAR).meeting(Lead(FAR, FAR - 1))
        self.assertEqual(pair_of(share), Fraction(2 * FAR, 2 * FAR + 1).as_integer_ratio())
        self.assertEqual(pair_of(x), (-FAR + 2 * FAR * Fraction(2 * FAR, 2 * FAR + 1)).as_integer_ratio())


if __name__ == "__main__":
    unittest.main()
