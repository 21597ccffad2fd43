"""Point 9: reading and writing texts."""

import unittest

from drawnlayers.errors import BadLine, DrawError, TooLarge
from drawnlayers.text.texts import read_text, write_text


class TextsTest(unittest.TestCase):
    def assert_raises(self, kind, line, text):
        with self.assertRaises(DrawError) as caught:
            read_text(text)
        self.assertIs(type(caught.exception), kind)
        self.assertEqual(caught.exception.line, line)

    def test_the_empty_string(self):
        self.assertEqual(read_text(""), ())
        self.assertEqual(write_text(()), "")

    def test_lines_are_read_in_order(self):
        text = "nodes width=5\ngroup\nedge a b c weight=2\nend"
        statements = (("nodes", (("width", 5),)), ("group",), ("edge", ("a", "b", "c"), (("weight", 2),)), ("end",))
        self.assertEqual(read_text(text), statements)
        self.assertEqual(write_text(statements), text)
        self.assertEqual(read_text("end"), (("end",),))

    def test_empty_lines(self):
        self.assert_raises(BadLine, 0, "\n")
        self.assert_raises(BadLine, 1, "group\n")
        self.assert_raises(BadLine, 1, "group\n\nend")
        self.assert_raises(BadLine, 0, "\ngroup")

    def test_the_first_bad_line(self):
        self.assert_raises(BadLine, 1, "group\nnode A\nend")
        self.assert_raises(BadLine, 0, "node A\nnode B")
        self.assert_raises(BadLine, 2, "group\nend\nnode a=\nnode B")
        self.assert_raises(BadLine, 0, "node a width=" + "9" * 19000)
        self.assert_raises(BadLine, 0, "edge" + " a" * 9000)

    def test_eighty_lines(self):
        self.assertEqual(read_text("\n".join(["end"] * 80)), (("end",),) * 80)
        self.assert_raises(TooLarge, 80, "\n".join(["end"] * 81))
        self.assert_raises(TooLarge, 80, "\n".join(["end"] * 6000))

    def test_which_of_the_two_errors_comes(self):
        good = ["end"] * 82
        for at in (0, 1, 78, 79):
            lines = list(good)
            lines[at] = "bad"
            self.assert_raises(BadLine, at, "\n".join(lines))
        for at in (80, 81):
            lines = list(good)
            lines[at] = "bad"
            self.assert_raises(TooLarge, 80, "\n".join(lines))
        self.assert_raises(TooLarge, 80, "end\n" * 80)
        self.assert_raises(BadLine, 79, "end\n" * 79)
        self.assert_raises(BadLine, 0, "\n" * 20000)
        self.assert_raises(TooLarge, 80, "end\n" * 80 + "bad")

    def test_writing_more_than_eighty_statements(self):
        self.assertEqual(write_text((("end",),) * 100), "\n".join(["end"] * 100))


if __name__ == "__main__":
    unittest.main()
