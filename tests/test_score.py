"""Point 80."""

import itertools
import unittest

from drawnlayers.ink.ink import Ink
from drawnlayers.ink.meeting import crossings_of
from drawnlayers.ink.score import Score, score_of
from helpers import many_pictures


def numbers_of(score):
    return (score.crossings, score.bends, score.moves)


class AlwaysEqual:
    def __eq__(self, other):
        return True


class ScoreTest(unittest.TestCase):
    def test_attributes(self):
        self.assertEqual(numbers_of(Score(1, 2, 3)), (1, 2, 3))
        self.assertEqual(numbers_of(Score(moves=0, bends=10 ** 39, crossings=7)), (7, 10 ** 39, 0))

    def test_sums(self):
        one, other = Score(1, 20, 300), Score(4, 50, 6)
        total = one + other
        self.assertIs(type(total), Score)
        self.assertEqual(numbers_of(total), (5, 70, 306))
        former = one
        one += other
        self.assertEqual(numbers_of(one), (5, 70, 306))
        self.assertEqual((numbers_of(former), numbers_of(other)), ((1, 20, 300), (4, 50, 6)))

    def test_less_and_equal(self):
        rows = list(itertools.product(range(3), repeat=3))
        for one, other in itertools.product(rows, repeat=2):
            a, b = Score(*one), Score(*other)
            self.assertIs(a < b, one < other)
            self.assertIs(a > b, one > other)
            self.assertIs(a == b, one == other)
            self.assertIs(a != b, one != other)

    def test_fewer_crossings_come_first(self):
        self.assertTrue(Score(0, 99, 99) < Score(1, 0, 0))
        self.assertTrue(Score(1, 0, 99) < Score(1, 1, 0))
        self.assertTrue(Score(1, 1, 0) < Score(1, 1, 1))
        self.assertFalse(Score(1, 1, 1) < Score(1, 1, 1))

    def test_a_score_equals_nothing_else(self):
        score = Score(0, 0, 0)
        for other in (0, False, None, "", (), (0, 0, 0), [0, 0, 0], "Score(0, 0, 0)", Ink(()), object(), AlwaysEqual()):
            self.assertIs(score == other, False)
            self.assertIs(score != other, True)
        self.assertFalse((0, 0, 0) == score)
        self.assertTrue((1, score) == (1, Score(0, 0, 0)))

    def test_a_score_is_not_less_or_greater_than_anything_else(self):
        for other in (5, (0, 0, 0), None, "a"):
            with self.assertRaises(TypeError):
                Score(1, 1, 1) < other

    def test_the_least_of_several(self):
        scores = [Score(2, 0, 0), Score(0, 5, 1), Score(0, 4, 9)]
        self.assertEqual(numbers_of(min(scores)), (0, 4, 9))


class ScoreOfTest(unittest.TestCase):
    def test_inks(self):
        self.assertEqual(numbers_of(score_of(Ink(()))), (0, 0, 0))
        self.assertEqual(numbers_of(score_of(Ink([("line", 0, 0, 9), ("box", 0, 0, 5, 5), ("note", 0, 0, "a")]))), (0, 0, 0))
        curves = [("curve", 0, 5, 4, 9), ("curve", 1, 5, 0, 9), ("curve", -3, 0, -10, 5)]
        self.assertEqual(numbers_of(score_of(Ink(curves))), (1, 3, 12))
        self.assertEqual(numbers_of(score_of(Ink([*curves, ("line", 2, 0, 20)]))), (2, 3, 12))

    def test_pictures(self):
        for text, picture in many_pictures(40, seed=80):
            score = score_of(picture.ink)
            self.assertTrue(picture.score == score)
            curves = [mark for mark in picture.ink if mark[0] == "curve"]
            moves = sum(abs(mark[3] - mark[1]) for mark in curves)
            self.assertEqual(numbers_of(score), (len(crossings_of(picture.ink)), len(curves), moves), text)
            self.assertTrue(score_of(picture.ink.moved(5, 5)) == score)


if __name__ == "__main__":
    unittest.main()
