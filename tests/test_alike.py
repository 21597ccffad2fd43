"""Point 17 with points 9 and 13, and the example of point 18."""

import unittest

from drawnlayers.errors import (
    BadLine, BadPlace, DrawError, FirmRing, FlatEdge, LoopLabel, NameTaken, NoName, TooLarge, Unclosed,
)
from drawnlayers.graph.alike import alike, needless_lines
from drawnlayers.graph.build import build_graph
from drawnlayers.graph.plain import plain_text
from drawnlayers.text.texts import read_text
from helpers import random_texts

EXAMPLE = "nodes width=5\ngroup\nnodes width=7\nnode b\nend\nedge a b c weight=2"

# A text with one error of each kind, and the number of its line.
FAULTS = (
    ("node a\nnode A", BadLine, 1),
    ("node a\n", BadLine, 1),
    ("end", BadPlace, 0),
    ("group\ngraph down=3\nend", BadPlace, 1),
    ("node a\nlot a\nend", NameTaken, 1),
    ("node a\nsame a b", NoName, 1),
    ("edge a b c d e f g h\nnode i", TooLarge, 1),
    ("edge a a label=x", LoopLabel, 0),
    ("edge a b\nsame a b", FlatEdge, 1),
    ("edge a b a firm=yes", FirmRing, 0),
    ("group\nlot a\nend", Unclosed, 0),
    ("\n".join(["group", "end"] * 41), TooLarge, 80),
)


def needless_by_words(text):
    """Point 17, with the lines themselves left out of the text."""
    graph = build_graph(read_text(text))
    lines = text.split("\n")
    found = []
    for at in range(len(lines) if text else 0):
        try:
            if build_graph(read_text("\n".join(lines[:at] + lines[at + 1:]))) == graph:
                found.append(at)
        except DrawError:
            pass
    return found


class FaultTest(unittest.TestCase):
    def assert_fault(self, call, error, line):
        with self.assertRaises(error) as caught:
            call()
        self.assertIs(type(caught.exception), error)
        self.assertEqual(caught.exception.line, line)


class AlikeTest(FaultTest):
    def test_alike(self):
        for one, other in (
            ("", ""),
            ("", "group\nend"),
            ("", "nodes width=9\nedges firm=yes\ngraph across=2"),
            ("edge a b c", "edge a b\nedge b c"),
            ("edge a b weight=1 span=1", "node a\nnode b label=$\nedge a b"),
            ("nodes width=5\nnode a", "node a\nnode a width=5"),
            (EXAMPLE, "node b width=7\nnode a width=5\nnode c width=5\nedge a b weight=2\nedge b c weight=2"),
            ("node a\nnode b\nsame a b", "node a\nnode b\nsame b a\nsame a b"),
            ("graph across=9\nlot a\nend", "graph across=9\nlot a\ngraph across=9\nend"),
        ):
            self.assertIs(alike(one, other), True, (one, other))
            self.assertIs(alike(other, one), True, (one, other))

    def test_unlike(self):
        for one, other in (
            ("", "node a"),
            ("", "graph across=3"),
            ("node a", "node b"),
            ("node a\nnode b", "node b\nnode a"),
            ("node a", "lot a\nend"),
            ("edge a b", "edge a b\nedge a b"),
            ("edge a b\nedge a c", "node a\nnode b\nedge a c\nedge a b"),
            ("edge a b", "edge a b firm=yes"),
            ("edge a b", "edge a b label=x"),
            ("node a", "node a label=a"),
            ("node a\nnode b", "node a\nnode b\nsame a b"),
            ("lot a\nend\ngraph across=9", "graph across=9\nlot a\nend"),
            ("lot a\nnode b\nend", "lot a\nnode b width=2\nend"),
        ):
            self.assertIs(alike(one, other), False, (one, other))
            self.assertIs(alike(other, one), False, (one, other))

    def test_the_error_of_the_first_text_and_of_the_second_one(self):
        for text, error, line in FAULTS:
            self.assert_fault(lambda: alike(text, "node a"), error, line)
            self.assert_fault(lambda: alike("node a", text), error, line)
            self.assert_fault(lambda: alike(text, text), error, line)
            for other, _, _ in FAULTS:
                self.assert_fault(lambda: alike(text, other), error, line)

    def test_a_text_is_read_as_a_whole_before_it_is_built(self):
        self.assert_fault(lambda: alike("end\nnode A", ""), BadLine, 1)
        self.assert_fault(lambda: alike("", "end\nnode A"), BadLine, 1)
        self.assert_fault(lambda: alike("end\n" + "\n".join(["group"] * 80), ""), TooLarge, 80)
        # The first text is built before the second one is read.
        self.assert_fault(lambda: alike("end", "node A"), BadPlace, 0)
        self.assert_fault(lambda: needless_lines("end\nnode A"), BadLine, 1)
        self.assert_fault(lambda: needless_lines("same a b\n" + "\n".join(["group"] * 80)), TooLarge, 80)

    def test_plain_texts_are_alike(self):
        last = ""
        for text in random_texts(80, seed=17):
            plain = plain_text(build_graph(read_text(text)))
            self.assertIs(alike(text, plain), True)
            self.assertIs(alike(last, plain), last == plain)
            last = plain


class NeedlessTest(FaultTest):
    def test_the_examples(self):
        self.assertEqual(needless_lines(EXAMPLE), [])
        self.assertEqual(needless_lines("node a\nedge a b"), [0])

    def test_no_lines_and_one_line(self):
        self.assertEqual(needless_lines(""), [])
        self.assertEqual(needless_lines("node a"), [])
        self.assertEqual(needless_lines("nodes width=5"), [0])
        self.assertEqual(needless_lines("graph across=2"), [0])

    def test_several_lines_each_by_itself(self):
        self.assertEqual(needless_lines("node a width=5\nnode a width=5"), [0, 1])
        self.assertEqual(needless_lines("node a\nnode b\nedge a b"), [1])
        self.assertEqual(needless_lines("node b\nnode a\nedge a b"), [1])
        self.assertEqual(needless_lines("node b\nedge a b"), [])
        self.assertEqual(needless_lines("node a\nnode b\nnode c\nsame a b\nsame b c\nsame a c"), [3, 4, 5])

    def test_lines_without_which_the_text_cannot_be_built(self):
        self.assertEqual(needless_lines("group\nend"), [])
        self.assertEqual(needless_lines("group\nnode a\nend\nnode b"), [])
        self.assertEqual(needless_lines("node a\nlot b\nend\nsame a b"), [])
        self.assertEqual(needless_lines("edges label=x\nedges label=\nedge a a"), [0])
        self.assertEqual(needless_lines("edges firm=yes\nedges firm=no\nedge a b a"), [0])

    def test_ends_of_groups_can_be_one_too_many_for_the_others(self):
        self.assertEqual(needless_lines("group\nnodes width=3\nend\nnode a"), [1])
        self.assertEqual(needless_lines("group\ngroup\nnode a\nend\nend"), [])
        self.assertEqual(needless_lines("group\nend\ngraph across=2"), [2])

    def test_eighty_lines(self):
        text = "\n".join(["node a"] * 80)
        self.assertEqual(needless_lines(text), list(range(80)))
        self.assertEqual(needless_lines("\n".join(["graph across=3"] * 79 + ["graph across=4"])), list(range(79)))

    def test_the_error_of_the_text(self):
        for text, error, line in FAULTS:
            self.assert_fault(lambda: needless_lines(text), error, line)

    def test_against_the_words(self):
        some = 0
        for text in random_texts(60, seed=18):
            found = needless_lines(text)
            self.assertIsInstance(found, list)
            self.assertEqual(found, needless_by_words(text), text)
            some += bool(found)
        self.assertGreater(some, 20)


if __name__ == "__main__":
    unittest.main()
