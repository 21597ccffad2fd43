"""Points 72 and 76."""

import random
import unittest

from drawnlayers.ink.follow import follow
from drawnlayers.ink.ink import Ink
from drawnlayers.ink.marks import begin_of, end_of
from test_marks import FAR


def follow_by_words(ink, x, y):
    found = []
    while True:
        here = sorted(mark for mark in ink if mark[0] in ("line", "curve", "note") and begin_of(mark) == (x, y))
        if not here:
            return found
        found.append(here[0])
        x, y = end_of(here[0])


class FollowTest(unittest.TestCase):
    def assert_followed(self, marks, x, y, expected):
        ink = Ink(marks)
        self.assertEqual(list(follow(ink, x, y)), expected)
        self.assertEqual(ink.marks, tuple(sorted(marks)))

    def test_nothing_to_follow(self):
        self.assert_followed([], 0, 0, [])
        self.assert_followed([("line", 0, 0, 5)], 0, 1, [])
        self.assert_followed([("line", 0, 0, 5)], 0, 5, [])
        self.assert_followed([("line", 0, 0, 5)], 1, 0, [])

    def test_lines_curves_and_notes(self):
        marks = [("line", 3, 0, 4), ("curve", 3, 4, 9, 8), ("note", 7, 8, "ab"), ("line", 9, 9, 12), ("curve", 9, 12, 1, 13)]
        self.assert_followed(marks, 3, 0, marks)
        self.assert_followed(marks, 3, 4, marks[1:])
        self.assert_followed(marks, 9, 8, marks[2:])
        self.assert_followed(marks, 7, 8, [])
        self.assert_followed(marks, 9, 9, marks[3:])
        self.assert_followed(marks, 1, 13, [])

    def test_a_note_between_lines(self):
        for word, half in (("a", 1), ("abc", 2), ("abcd", 3)):
            marks = [("line", half, 0, 4), ("note", 0, 4, word), ("line", half, 5, 6)]
            self.assert_followed(marks, half, 0, marks)

    def test_the_least_of_several_pieces(self):
        marks = [("line", 3, 0, 4), ("line", 3, 0, 2), ("curve", 3, 0, 5, 2), ("curve", 3, 0, -5, 2), ("curve", 3, 0, 4, 1), ("note", 2, 0, "a")]
        self.assert_followed(marks, 3, 0, [("curve", 3, 0, -5, 2)])
        self.assert_followed(marks[:2] + marks[5:], 3, 0, [("line", 3, 0, 2)])
        self.assert_followed([("note", 2, 0, "a"), ("note", 1, 0, "bcd"), ("note", 2, 0, "B")], 3, 0, [("note", 1, 0, "bcd")])
        self.assert_followed([("note", 2, 0, "a"), ("line", 3, 0, 1), ("line", 3, 1, 7)], 3, 0, [("line", 3, 0, 1), ("line", 3, 1, 7)])

    def test_other_marks_are_no_pieces(self):
        self.assert_followed([("box", 0, 0, 1, 1), ("text", 0, 0, "a"), ("head", 0, 0, "up"), ("loop", 0, 0, 1, 2), ("frame", 0, 0, 3, 3)],
                             0, 0, [])

    def test_far_out(self):
        marks = [("line", 3 * FAR, -3 * FAR, FAR), ("curve", 3 * FAR, FAR, 0, 4 * FAR)]
        self.assert_followed(marks, 3 * FAR, -3 * FAR, marks)

    def test_pieces_come_one_by_one(self):
        pieces = follow(Ink([("line", 0, at, at + 1) for at in range(100)]), 0, 40)
        self.assertEqual(next(pieces), ("line", 0, 40, 41))
        self.assertEqual(len(list(pieces)), 59)

    def test_random_inks_against_the_words(self):
        source = random.Random(76)
        longest = 0
        for _ in range(300):
            marks = []
            for _ in range(source.randint(0, 25)):
                x, y = source.randint(0, 2), source.randint(0, 5)
                marks.append(source.choice((("line", x, y, y + source.randint(1, 2)), ("curve", x, y, x + source.choice((-1, 1)), y + 1),
                                            ("note", x - 1, y, source.choice("ab")))))
            ink = Ink(marks)
            for x in range(3):
                found = list(follow(ink, x, 0))
                self.assertEqual(found, follow_by_words(ink, x, 0))
                longest = max(longest, len(found))
        self.assertGreater(longest, 4)


if __name__ == "__main__":
    unittest.main()
