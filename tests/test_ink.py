"""Points 73 and 74: inks as sets, and their written forms."""

import random
import unittest

from drawnlayers.errors import BadMark
from drawnlayers.ink.ink import Ink, joined
from drawnlayers.ink.marks import is_mark, moved_mark, write_mark
from test_marks import FAR, MARKS, random_mark


def random_marks(source, pool, most):
    return [source.choice(pool) for _ in range(source.randint(0, most))]


class InkTest(unittest.TestCase):
    def assert_ink(self, ink, marks):
        """The ink has just the marks of this set."""
        ordered = sorted(marks)
        self.assertIs(type(ink), Ink)
        self.assertEqual(ink.marks, tuple(ordered))
        self.assertIs(type(ink.marks), tuple)
        self.assertEqual(list(ink), ordered)
        self.assertEqual(len(ink), len(marks))
        for mark in ordered + list(MARKS):
            self.assertIs(mark in ink, mark in marks)

    def test_making(self):
        self.assert_ink(Ink([]), set())
        self.assert_ink(Ink(()), set())
        self.assert_ink(Ink(MARKS), set(MARKS))
        self.assert_ink(Ink(list(MARKS)[::-1]), set(MARKS))
        self.assert_ink(Ink(marks=MARKS[:3] * 3), set(MARKS[:3]))

    def test_marks_stand_in_ascending_order(self):
        self.assertEqual(Ink([("line", 1, 0, 5), ("line", -1, 0, 5), ("box", 10, 0, 1, 1), ("box", 9, 0, 1, 1), ("text", 0, 0, "b"),
                              ("text", 0, 0, "B"), ("head", 0, 0, "up"), ("head", 0, 0, "down"), ("line", 1, 0, 4)]).marks,
                         (("box", 9, 0, 1, 1), ("box", 10, 0, 1, 1), ("head", 0, 0, "down"), ("head", 0, 0, "up"),
                          ("line", -1, 0, 5), ("line", 1, 0, 4), ("line", 1, 0, 5), ("text", 0, 0, "B"), ("text", 0, 0, "b")))

    def test_a_list_that_is_passed_in_is_copied(self):
        marks = list(MARKS[:4])
        ink = Ink(marks)
        marks.append(MARKS[5])
        marks.reverse()
        self.assert_ink(ink, set(MARKS[:4]))
        self.assertEqual(marks, [MARKS[5], *MARKS[:4][::-1]])

    def test_operators_against_sets(self):
        source = random.Random(73)
        pool = [random_mark(source) for _ in range(12)]
        for _ in range(200):
            first, second = (random_marks(source, pool, 14) for _ in range(2))
            a, b = Ink(first), Ink(second)
            self.assert_ink(a + b, set(first) | set(second))
            self.assert_ink(a & b, set(first) & set(second))
            self.assert_ink(a - b, set(first) - set(second))
            self.assert_ink(a, set(first))
            self.assert_ink(b, set(second))

    def test_operators_with_the_empty_ink_and_with_itself(self):
        ink, nothing = Ink(MARKS), Ink(())
        for found in (ink + nothing, nothing + ink, ink - nothing, ink & ink, ink + ink):
            self.assert_ink(found, set(MARKS))
        for found in (ink & nothing, nothing & ink, nothing - ink, ink - ink, nothing + nothing):
            self.assert_ink(found, set())

    def test_operators_that_assign_leave_the_former_ink(self):
        former = ink = Ink(MARKS[:4])
        ink += Ink(MARKS[3:6])
        self.assert_ink(ink, set(MARKS[:6]))
        ink -= Ink(MARKS[:1])
        self.assert_ink(ink, set(MARKS[1:6]))
        ink &= Ink(MARKS[4:])
        self.assert_ink(ink, set(MARKS[4:6]))
        self.assert_ink(former, set(MARKS[:4]))

    def test_joined(self):
        self.assert_ink(joined(), set())
        self.assert_ink(joined(Ink(MARKS)), set(MARKS))
        self.assert_ink(joined(*[Ink((mark,)) for mark in MARKS], Ink(()), Ink(MARKS[:2])), set(MARKS))

    def test_moved(self):
        ink = Ink(MARKS)
        self.assert_ink(ink.moved(3, -4), {moved_mark(mark, 3, -4) for mark in MARKS})
        self.assert_ink(ink.moved(dx=0, dy=0), set(MARKS))
        self.assert_ink(ink, set(MARKS))
        self.assert_ink(Ink(()).moved(FAR, FAR), set())

    def test_moved_inks_that_lie_far_out(self):
        far = Ink(MARKS).moved(FAR, -FAR).moved(FAR, -FAR)
        marks = {moved_mark(mark, 2 * FAR, -2 * FAR) for mark in MARKS}
        self.assertFalse(any(is_mark(mark) for mark in marks))
        self.assert_ink(far, marks)
        self.assert_ink(far + Ink(MARKS), marks | set(MARKS))
        self.assert_ink(far & far, marks)
        self.assert_ink(far - Ink(MARKS), marks)
        self.assert_ink(joined(far, far.moved(1, 0)), marks | {moved_mark(mark, 1, 0) for mark in marks})
        self.assert_ink(far.moved(-FAR, FAR).moved(-FAR, FAR), set(MARKS))
        self.assertEqual(far.written(), "\n".join(write_mark(mark) for mark in sorted(marks)))

    def test_many_marks(self):
        marks = [("box", x, y, 1, 1) for x in range(50) for y in range(40)]
        ink = Ink(marks[::-1])
        self.assertEqual(ink.marks, tuple(marks))
        both = ink + ink.moved(1000, 0)
        self.assertEqual(len(both), 4000)
        self.assertEqual((both - ink).marks, ink.moved(1000, 0).marks)
        self.assertEqual((both & ink).marks, ink.marks)


class WrittenInksTest(unittest.TestCase):
    def assert_bad(self, row, text):
        with self.assertRaises(BadMark, msg=text[:60]) as caught:
            Ink.read(text)
        self.assertEqual(caught.exception.row, row)

    def test_the_empty_ink(self):
        self.assertEqual(Ink(()).written(), "")
        self.assertEqual(Ink.read("").marks, ())

    def test_there_and_back(self):
        source = random.Random(74)
        for _ in range(100):
            marks = [random_mark(source) for _ in range(source.randint(1, 30))]
            ink = Ink(marks)
            written = ink.written()
            self.assertEqual(written.split("\n"), [write_mark(mark) for mark in sorted(set(marks))])
            self.assertEqual(Ink.read(written).marks, ink.marks)
            self.assertEqual(Ink(()).read(written).marks, ink.marks)

    def test_one_row(self):
        self.assertEqual(Ink.read("head 2 7 down").marks, (("head", 2, 7, "down"),))

    def test_the_first_bad_row(self):
        good = [write_mark(mark) for mark in sorted(MARKS)]
        for at in range(len(good)):
            for bad in ("", " ", good[at] + " ", " " + good[at], good[at].replace(" ", "  ", 1), "box 0 0 5", "~", "box 00 0 1 1",
                        "box -0 0 1 1", "box " + "7" * 5000 + " 0 1 1", "loop 0 0 1 " + "0" * 9000, "box 1000000 0 1 1"):
                rows = good[:at] + [bad] + good[at + 1:]
                self.assert_bad(at, "\n".join(rows))
                self.assert_bad(at, "\n".join(rows + ["also bad", ""]))

    def test_a_row_that_equals_the_one_before(self):
        for at, mark in enumerate(sorted(MARKS)):
            rows = [write_mark(other) for other in sorted(MARKS)]
            self.assert_bad(at + 1, "\n".join(rows[:at + 1] + rows[at:]))

    def test_a_row_that_is_less_than_the_one_before(self):
        self.assert_bad(1, "box 1 0 1 1\nbox 0 0 1 1")
        self.assert_bad(1, "box 10 0 1 1\nbox 9 0 1 1")
        self.assert_bad(1, "box 0 0 1 1\nbox -1 0 1 1")
        self.assert_bad(2, "box 0 0 1 1\nline 0 0 1\nhead 0 0 up")
        self.assert_bad(2, "box 0 0 1 1\nbox 0 0 1 2\nbox 0 0 1 1")
        self.assert_bad(1, "text 0 0 b\ntext 0 0 B\n")
        self.assertEqual(len(Ink.read("box 9 0 1 1\nbox 10 0 1 1")), 2)
        self.assertEqual(len(Ink.read("box -1 0 1 1\nbox 0 0 1 1")), 2)

    def test_line_feeds(self):
        self.assert_bad(0, "\n")
        self.assert_bad(0, "\nbox 0 0 1 1")
        self.assert_bad(1, "box 0 0 1 1\n")
        self.assert_bad(1, "box 0 0 1 1\n\nbox 0 0 1 2")
        self.assert_bad(0, "\n" * 20000)

    def test_a_moved_ink_may_be_written_but_not_read(self):
        self.assert_bad(0, Ink([("box", FAR, 0, 1, 1)]).moved(1, 0).written())
        self.assert_bad(1, Ink([("box", FAR, 0, 1, 1), ("box", 0, 0, 1, 1)]).moved(1, 0).written())

    def test_the_longest_strings(self):
        rows = [f"box {number} 0 1 1" for number in range(1000, 2000)]
        text = "\n".join(rows)
        self.assertLess(len(text), 20000)
        self.assertEqual(Ink.read(text).written(), text)
        self.assert_bad(1000, text + "\n" + "9" * (19999 - len(text)))


if __name__ == "__main__":
    unittest.main()
