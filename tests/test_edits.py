"""Point 89."""

import random
import unittest

from drawnlayers.desk.edits import apply_edit, inverse_edit
from drawnlayers.errors import DrawError, NoLine

LINES = ("a", "b", "c", "d")
GREAT = 10 ** 39


def applied_by_words(lines, edit):
    rows = list(lines)
    if edit[0] == "put":
        rows.insert(edit[1], edit[2])
    elif edit[0] == "take":
        del rows[edit[1]]
    else:
        rows.insert(edit[2], rows.pop(edit[1]))
    return tuple(rows)


class EditsTest(unittest.TestCase):
    def assert_no_line(self, number, lines, edit):
        for call in (apply_edit, inverse_edit):
            with self.assertRaises(NoLine) as caught:
                call(lines, edit)
            self.assertEqual(caught.exception.number, number)
            self.assertIsInstance(caught.exception, DrawError)

    def test_putting(self):
        self.assertEqual(apply_edit(LINES, ("put", 0, "x")), ("x", "a", "b", "c", "d"))
        self.assertEqual(apply_edit(LINES, ("put", 2, "x")), ("a", "b", "x", "c", "d"))
        self.assertEqual(apply_edit(LINES, ("put", 4, "x")), ("a", "b", "c", "d", "x"))
        self.assertEqual(apply_edit((), ("put", 0, "")), ("",))

    def test_taking(self):
        self.assertEqual(apply_edit(LINES, ("take", 0)), ("b", "c", "d"))
        self.assertEqual(apply_edit(LINES, ("take", 2)), ("a", "b", "d"))
        self.assertEqual(apply_edit(LINES, ("take", 3)), ("a", "b", "c"))
        self.assertEqual(apply_edit(("a",), ("take", 0)), ())

    def test_moving(self):
        self.assertEqual(apply_edit(LINES, ("move", 0, 3)), ("b", "c", "d", "a"))
        self.assertEqual(apply_edit(LINES, ("move", 3, 0)), ("d", "a", "b", "c"))
        self.assertEqual(apply_edit(LINES, ("move", 1, 2)), ("a", "c", "b", "d"))
        self.assertEqual(apply_edit(LINES, ("move", 2, 1)), ("a", "c", "b", "d"))
        for at in range(4):
            self.assertEqual(apply_edit(LINES, ("move", at, at)), LINES)
            for to in range(4):
                self.assertEqual(apply_edit(LINES, ("move", at, to))[to], LINES[at])

    def test_numbers_out_of_their_range(self):
        for many in range(4):
            lines = LINES[:many]
            for number in (-1, -many - 1, many + 1, GREAT, -GREAT):
                self.assert_no_line(number, lines, ("put", number, "x"))
            for number in (-1, -many, many, many + 1, GREAT, -GREAT):
                if number != 0 or many == 0:
                    self.assert_no_line(number, lines, ("take", number))
                    self.assert_no_line(number, lines, ("move", number, 0))
                if many > 0 and number != 0:
                    self.assert_no_line(number, lines, ("move", 0, number))
                    self.assert_no_line(number, lines, ("move", many - 1, number))

    def test_the_first_one_of_two_such_numbers(self):
        for at, to in ((4, 5), (5, 4), (-1, 9), (9, -1), (GREAT, -GREAT), (-GREAT, GREAT)):
            self.assert_no_line(at, LINES, ("move", at, to))
        self.assert_no_line(0, (), ("move", 0, 0))

    def test_inverses(self):
        self.assertEqual(inverse_edit(LINES, ("put", 2, "x")), ("take", 2))
        self.assertEqual(inverse_edit(LINES, ("put", 4, "x")), ("take", 4))
        self.assertEqual(inverse_edit((), ("put", 0, "x")), ("take", 0))
        self.assertEqual(inverse_edit(LINES, ("take", 1)), ("put", 1, "b"))
        self.assertEqual(inverse_edit(LINES, ("take", 3)), ("put", 3, "d"))
        self.assertEqual(inverse_edit(LINES, ("move", 0, 3)), ("move", 3, 0))
        self.assertEqual(inverse_edit(LINES, ("move", 2, 2)), ("move", 2, 2))

    def test_every_edit_and_its_inverse(self):
        for many in range(5):
            lines = LINES[:many]
            edits = [("put", at, "x") for at in range(many + 1)] + [("take", at) for at in range(many)]
            edits += [("move", at, to) for at in range(many) for to in range(many)]
            for edit in edits:
                after = apply_edit(lines, edit)
                self.assertIs(type(after), tuple)
                self.assertEqual(after, applied_by_words(lines, edit))
                self.assertEqual(apply_edit(after, inverse_edit(lines, edit)), lines)

    def test_any_lines(self):
        lines = ("", "end end", "~" * 200, "", " x ")
        self.assertEqual(apply_edit(lines, ("move", 4, 0)), (" x ", "", "end end", "~" * 200, ""))
        self.assertEqual(inverse_edit(lines, ("take", 1)), ("put", 1, "end end"))

    def test_many_edits_and_back(self):
        source = random.Random(89)
        lines = LINES * 20
        back = []
        now = lines
        for _ in range(300):
            at, to = (source.randrange(len(now)) for _ in range(2)) if now else (0, 0)
            edit = source.choice((("put", at, source.choice(LINES)), ("take", at), ("move", at, to))) if now else ("put", 0, "a")
            back.append(inverse_edit(now, edit))
            now = apply_edit(now, edit)
        for edit in reversed(back):
            now = apply_edit(now, edit)
        self.assertEqual(now, lines)


if __name__ == "__main__":
    unittest.main()
