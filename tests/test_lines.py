"""Points 5, 7 and 8."""

import itertools
import unittest

from drawnlayers.errors import BadLine
from drawnlayers.text.lines import read_line, write_line

NAMES = ("a", "b", "c", "d", "e", "f", "g", "h", "i", "j", "k", "l", "m", "n")
PAIRS = {
    "node ab label=A.1 width=9": ("node", "ab", (("label", "A.1"), ("width", 9))),
    "node a": ("node", "a", ()),
    "node a label=": ("node", "a", (("label", ""),)),
    "node a label=$$._!? height=20 width=30": ("node", "a", (("label", "$$._!?"), ("height", 20), ("width", 30))),
    "node node width=1 height=1": ("node", "node", (("width", 1), ("height", 1))),
    "lot abcdef": ("lot", "abcdef", ()),
    "lot lot height=3 label=x": ("lot", "lot", (("height", 3), ("label", "x"))),
    "edge a b c span=2 firm=yes": ("edge", ("a", "b", "c"), (("span", 2), ("firm", True))),
    "edge a a": ("edge", ("a", "a"), ()),
    "edge a b firm=no": ("edge", ("a", "b"), (("firm", False),)),
    "edge end node": ("edge", ("end", "node"), ()),
    "edge edge edge weight=0": ("edge", ("edge", "edge"), (("weight", 0),)),
    "edge label firm label= firm=no": ("edge", ("label", "firm"), (("label", ""), ("firm", False))),
    "edge a b price=9 span=4 weight=9 label=yes firm=yes":
        ("edge", ("a", "b"), (("price", 9), ("span", 4), ("weight", 9), ("label", "yes"), ("firm", True))),
    "edge a b c d e f g h i j k l m": ("edge", NAMES[:13], ()),
    "nodes label=$": ("nodes", (("label", "$"),)),
    "nodes height=2 width=3 label=": ("nodes", (("height", 2), ("width", 3), ("label", ""))),
    "edges label=": ("edges", (("label", ""),)),
    "edges firm=yes price=3": ("edges", (("firm", True), ("price", 3))),
    "graph across=1": ("graph", (("across", 1),)),
    "graph margin=9 down=20 across=9": ("graph", (("margin", 9), ("down", 20), ("across", 9))),
    "same a b": ("same", ("a", "b")),
    "same a b c d e f g same": ("same", ("a", "b", "c", "d", "e", "f", "g", "same")),
    "group": ("group",),
    "end": ("end",),
}
BAD = (
    "", " ", "\n", "  ", "node", "node ", " node a", "node a ", "node  a", "node a  width=1", "lot", "group ", " end",
    "end end", "group a", "end=", "group width=1", "Node a", "NODE a", "nod a", "x", "a b", "=", "label=a",
    "node A", "node a1", "node abcdefg", "node a b", "node a width", "node a width=", "node a =3", "node a =",
    "node width=3", "node a width=0", "node a width=31", "node a width=01", "node a width=+1", "node a width=-1",
    "node a width=1.0", "node a width= 1", "node a width =1", "node a width=1 ", "node a height=21", "node a height=0",
    "node a width=1 width=1", "node a width=1 height=1 width=2", "node a label=a label=b", "node a width=yes",
    "node a weight=1", "node a span=1", "node a firm=yes", "node a across=2", "lot a down=3", "lot a price=1",
    "node a label=abcdefg", "node a label=a=b", "node a label=a-b", "node a label==", "node a color=1", "node a Width=1",
    "node a width=1\n", "node a\n", "node\na", "node a\nnode b", "end\n", "\nend", "group\nend", "same a b\n",
    "node a label=\n", "node a label=a\n", "edge a b firm=yes\n", "edge a b weight=1\n",
    "edge", "edge a", "edge a b c d e f g h i j k l m n", "edge a b =", "edge a b weight=10", "edge a b weight=00",
    "edge a b span=0", "edge a b span=5", "edge a b price=0", "edge a b price=10", "edge a b firm=True",
    "edge a b firm=1", "edge a b firm=0", "edge a b firm=", "edge a b firm=Yes", "edge a b label=$", "edge a b label=a$",
    "edge a b width=1", "edge a b weight=1 c", "edge a weight=1 b", "edge weight=1 a b", "edge a b weight=1 weight=1",
    "edge a weight=1", "edge a b margin=1", "edge A b", "edge a b firm=yes firm=no",
    "nodes", "nodes ", "nodes a", "nodes a width=1", "nodes weight=1", "nodes width=1 a", "nodes width=1 width=2",
    "edges", "edges a b", "edges width=1", "edges label=$", "edges label=a$", "edges span=2 span=2",
    "graph", "graph a", "graph width=1", "graph across=0", "graph across=10", "graph down=1", "graph down=21",
    "graph margin=0", "graph margin=10", "graph label=a", "graph weight=1", "graph down=3 down=4",
    "same", "same a", "same a a", "same a b a", "same a b c d e f g h i", "same a b width=1", "same a B", "same a  b",
    "same a b ", "node a;end", "node a\tb", "node ab\n width=1",
)


class LinesTest(unittest.TestCase):
    def test_each_kind_is_written_and_read(self):
        for line, statement in PAIRS.items():
            self.assertEqual(write_line(statement), line)
            self.assertEqual(read_line(line), statement)

    def test_values_are_of_the_right_kind(self):
        self.assertIs(read_line("edge a b firm=yes")[2][0][1], True)
        self.assertIs(read_line("edge a b firm=no")[2][0][1], False)
        self.assertIs(type(read_line("node a width=1")[2][0][1]), int)
        self.assertIs(type(read_line("edge a b")[1]), tuple)

    def test_options_in_any_order(self):
        options = (("label", "x"), ("weight", 0), ("span", 3), ("price", 9), ("firm", True))
        for row in itertools.permutations(options):
            statement = ("edge", ("a", "b"), row)
            self.assertEqual(read_line(write_line(statement)), statement)
            self.assertEqual(read_line(write_line(("edges", row))), ("edges", row))

    def test_each_value_of_each_number(self):
        ranges = {"node a": {"width": (1, 30), "height": (1, 20)}, "nodes": {"width": (1, 30), "height": (1, 20)},
                  "edge a b": {"weight": (0, 9), "span": (1, 4), "price": (1, 9)},
                  "edges": {"weight": (0, 9), "span": (1, 4), "price": (1, 9)},
                  "graph": {"across": (1, 9), "down": (2, 20), "margin": (1, 9)}}
        for head, keys in ranges.items():
            for key, (low, high) in keys.items():
                for value in range(0, 120):
                    line = f"{head} {key}={value}"
                    if low <= value <= high:
                        self.assertEqual(read_line(line)[-1], ((key, value),))
                    else:
                        self.assert_bad(line)

    def assert_bad(self, line):
        with self.assertRaises(BadLine, msg=repr(line)) as caught:
            read_line(line)
        self.assertEqual(caught.exception.line, 0)

    def test_bad_lines(self):
        for line in BAD:
            self.assert_bad(line)

    def test_numbers_of_thousands_of_digits(self):
        for digits in ("1" * 900, "0" * 900, "9" * 5000, "0" * 4999 + "1", "1" * 20000):
            for line in ("node a width=", "edge a b weight=", "graph down=", "edges span=", "nodes height="):
                self.assert_bad(line + digits)

    def test_long_lines(self):
        self.assert_bad("edge " + " ".join(["a"] * 400))
        self.assert_bad("same " + " ".join(["a"] * 400))
        self.assert_bad("node " + "a" * 900)
        self.assert_bad(" " * 1000)
        self.assert_bad("\n" * 1000)
        self.assert_bad("node a" + " width=1" * 100)

    def test_a_line_feed_in_any_place_is_bad(self):
        for line in PAIRS:
            for at in range(len(line) + 1):
                self.assert_bad(line[:at] + "\n" + line[at:])

    def test_a_further_space_in_any_place_is_never_the_same_statement(self):
        for line, statement in PAIRS.items():
            for at in range(len(line) + 1):
                changed = line[:at] + " " + line[at:]
                try:
                    self.assertEqual(write_line(read_line(changed)), changed)
                    self.assertNotEqual(read_line(changed), statement)
                except BadLine:
                    pass


if __name__ == "__main__":
    unittest.main()
