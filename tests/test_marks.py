"""Points 5, 72, 73 and 74: single marks."""

import random
import unittest

from drawnlayers.errors import BadMark, DrawError
from drawnlayers.ink.marks import begin_of, end_of, is_mark, moved_mark, read_mark, write_mark

FAR = 999999
SIGNS = "abcdefghijklmnopqrstuvwxyzABCDEFGHIJKLMNOPQRSTUVWXYZ0123456789._!?"
TEXT_CHARACTERS = "\n" + "".join(chr(code) for code in range(32, 127) if code != 37)

MARKS = (
    ("box", 0, 0, 5, 3), ("frame", -4, 7, 1, 2), ("text", 1, 1, "ab"), ("note", 3, -2, "x"), ("line", 4, 0, 1),
    ("curve", 0, 0, 1, 1), ("curve", 5, -3, -5, 9), ("head", 2, 7, "down"), ("head", 2, 7, "up"), ("loop", 3, 0, 1, 2),
)
PLACES = {"box": (1, 2), "frame": (1, 2), "text": (1, 2), "note": (1, 2), "line": (1, 2, 3), "curve": (1, 2, 3, 4),
          "head": (1, 2), "loop": (1, 2, 3)}
SIZES = {"box": (3, 4), "frame": (3, 4), "loop": (4,)}


def replaced(mark, at, item):
    return mark[:at] + (item,) + mark[at + 1:]


def random_mark(source):
    x, y = (source.randint(-FAR, FAR) for _ in range(2))
    word = source.choice(tuple(PLACES))
    if word in ("box", "frame"):
        return (word, x, y, source.randint(1, FAR), source.choice((1, FAR)))
    if word in ("text", "note"):
        most = 36 if word == "text" else 6
        return (word, x, y, "".join(source.choice(SIGNS) for _ in range(source.choice((1, 2, most)))))
    if word == "head":
        return (word, x, y, source.choice(("down", "up")))
    y0, y1 = sorted(source.sample(range(-FAR, FAR + 1), 2))
    if word == "line":
        return (word, x, y0, y1)
    if word == "loop":
        return (word, x, y0, y1, source.randint(1, FAR))
    return (word, x, y0, x + 1 if x < 0 else x - 1, y1)


class IsMarkTest(unittest.TestCase):
    def assert_mark(self, expected, mark):
        self.assertIs(is_mark(mark), expected, mark)

    def test_one_of_each_kind(self):
        for mark in MARKS:
            self.assert_mark(True, mark)

    def test_places_at_both_ends_of_their_range(self):
        # These stay marks wherever one of their places goes.
        wide = (("box", 0, 0, 5, 3), ("frame", 0, 0, 5, 3), ("text", 0, 0, "a"), ("note", 0, 0, "a"), ("head", 0, 0, "up"))
        for mark in wide:
            for at in PLACES[mark[0]]:
                for place in (-FAR, -1, 0, FAR):
                    self.assert_mark(True, replaced(mark, at, place))
        for mark in (("line", FAR, -FAR, FAR), ("line", -FAR, FAR - 1, FAR), ("curve", -FAR, -FAR, FAR, FAR),
                     ("curve", FAR, -FAR, -FAR, 1 - FAR), ("loop", FAR, -FAR, FAR, FAR), ("loop", -FAR, 0, 1, 1)):
            self.assert_mark(True, mark)
        for mark in MARKS:
            for at in PLACES[mark[0]]:
                for place in (-FAR - 1, FAR + 1, 10 ** 39, -10 ** 39, 10 ** 5000):
                    self.assert_mark(False, replaced(mark, at, place))

    def test_sizes_at_both_ends_of_their_range(self):
        for mark in MARKS:
            for at in SIZES.get(mark[0], ()):
                for size in (1, 2, FAR):
                    self.assert_mark(True, replaced(mark, at, size))
                for size in (0, -1, FAR + 1, -FAR, 10 ** 39):
                    self.assert_mark(False, replaced(mark, at, size))

    def test_words(self):
        for word in ("a", "Z", "0", "._!?", "abcdef", "a" * 36, SIGNS[:36], SIGNS[30:], "down", "12"):
            self.assert_mark(True, ("text", 0, 0, word))
            self.assert_mark(len(word) <= 6, ("note", 0, 0, word))
        for word in ("a" * 7, "A.1234567"):
            self.assert_mark(False, ("note", 0, 0, word))
            self.assert_mark(True, ("text", 0, 0, word))
        for word in ("", "a" * 37, "$", "a$", "a b", " ", "a ", "-", "a\nb", "a,", "=", "a" * 1000):
            for kind in ("text", "note"):
                self.assert_mark(False, (kind, 0, 0, word))

    def test_each_character_of_a_word(self):
        for sign in TEXT_CHARACTERS:
            for kind in ("text", "note"):
                self.assert_mark(sign in SIGNS, (kind, 0, 0, "a" + sign))

    def test_the_order_of_ends(self):
        for mark in (("line", 0, 1, 1), ("line", 0, 2, 1), ("curve", 0, 1, 5, 1), ("curve", 0, 2, 5, 1), ("curve", 3, 0, 3, 1),
                     ("loop", 0, 1, 1, 2), ("loop", 0, 2, 1, 2)):
            self.assert_mark(False, mark)

    def test_the_way_of_a_head(self):
        for way in ("", "Down", "left", "down ", "yes", 0, 1, True, "do"):
            self.assert_mark(False, ("head", 0, 0, way))

    def test_true_and_false_are_no_numbers(self):
        for mark in MARKS:
            for at in PLACES[mark[0]] + SIZES.get(mark[0], ()):
                for item in (True, False):
                    self.assert_mark(False, replaced(mark, at, item))

    def test_items_of_other_kinds(self):
        for mark in MARKS:
            for at, item in enumerate(mark):
                for other in (0, 1, -5, True, False) if isinstance(item, str) else ("a", "0", "1", "", "-1", str(item)):
                    self.assert_mark(False, replaced(mark, at, other))

    def test_tuples_of_other_lengths_and_words(self):
        self.assert_mark(False, ())
        for mark in MARKS:
            self.assert_mark(False, mark[:1])
            self.assert_mark(False, mark[:-1])
            self.assert_mark(False, mark[1:])
            self.assert_mark(False, mark + (1,))
            self.assert_mark(False, mark + ("",))
            for word in ("", "Box", "boxes", "rect", 0, 1, True, False, "box "):
                self.assert_mark(False, replaced(mark, 0, word))
        for lone in ("box", "text", "", 0, True):
            self.assert_mark(False, (lone,))
        self.assert_mark(False, (1, 2, 3, 4, 5))


class PiecesTest(unittest.TestCase):
    def test_ends_of_lines_and_curves(self):
        self.assertEqual((begin_of(("line", 4, 1, 7)), end_of(("line", 4, 1, 7))), ((4, 1), (4, 7)))
        self.assertEqual((begin_of(("curve", 4, 1, -2, 7)), end_of(("curve", 4, 1, -2, 7))), ((4, 1), (-2, 7)))

    def test_ends_of_notes(self):
        for word, half in (("a", 1), ("ab", 2), ("abc", 2), ("abcd", 3), ("abcde", 3), ("abcdef", 4)):
            self.assertEqual(begin_of(("note", -2, 5, word)), (half - 2, 5))
            self.assertEqual(end_of(("note", -2, 5, word)), (half - 2, 6))

    def test_far_pieces(self):
        self.assertEqual(end_of(("line", FAR, FAR - 1, FAR)), (FAR, FAR))
        self.assertEqual(end_of(("note", FAR, FAR, "abcdef")), (FAR + 4, FAR + 1))


class MovedTest(unittest.TestCase):
    def test_each_kind(self):
        self.assertEqual([moved_mark(mark, 10, -100) for mark in MARKS], [
            ("box", 10, -100, 5, 3), ("frame", 6, -93, 1, 2), ("text", 11, -99, "ab"), ("note", 13, -102, "x"),
            ("line", 14, -100, -99), ("curve", 10, -100, 11, -99), ("curve", 15, -103, 5, -91), ("head", 12, -93, "down"),
            ("head", 12, -93, "up"), ("loop", 13, -100, -99, 2),
        ])

    def test_there_and_back(self):
        source = random.Random(73)
        for _ in range(200):
            mark = random_mark(source)
            dx, dy = source.choice((0, 1, FAR, -FAR)), source.choice((0, -1, FAR, -FAR))
            self.assertEqual(moved_mark(moved_mark(mark, dx, dy), -dx, -dy), mark)
            self.assertEqual(moved_mark(mark, 0, 0), mark)

    def test_farther_out_than_a_mark_may_lie(self):
        moved = moved_mark(moved_mark(("box", FAR, -FAR, FAR, 1), FAR, -FAR), FAR, -FAR)
        self.assertEqual(moved, ("box", 3 * FAR, -3 * FAR, FAR, 1))
        self.assertIs(is_mark(moved), False)
        self.assertEqual(write_mark(moved), "box 2999997 -2999997 999999 1")


class WrittenMarksTest(unittest.TestCase):
    def assert_bad(self, line):
        with self.assertRaises(BadMark, msg=line[:50]) as caught:
            read_mark(line)
        self.assertEqual(caught.exception.row, 0)
        self.assertIsInstance(caught.exception, DrawError)

    def test_the_examples(self):
        for mark, written in ((("box", 0, 0, 5, 3), "box 0 0 5 3"), (("text", 1, 1, "ab"), "text 1 1 ab"),
                              (("head", 2, 7, "down"), "head 2 7 down"), (("note", -3, -10, "12"), "note -3 -10 12")):
            self.assertEqual(write_mark(mark), written)
            self.assertEqual(read_mark(written), mark)

    def test_there_and_back(self):
        source = random.Random(74)
        for _ in range(1000):
            mark = random_mark(source)
            written = write_mark(mark)
            self.assertEqual(written, " ".join(str(item) for item in mark))
            back = read_mark(written)
            self.assertEqual(back, mark)
            self.assertEqual([type(item) for item in back], [type(item) for item in mark])

    def test_bad_spaces(self):
        for mark in MARKS:
            written = write_mark(mark)
            for line in (written + " ", " " + written, written.replace(" ", "  ", 1), written.replace(" ", "  "),
                         written.replace(" ", "\n"), written + "\n", "\n" + written, written.replace(" ", ""), written[:-1] + " "):
                self.assert_bad(line)

    def test_bad_numbers(self):
        for number in ("00", "01", "-0", "-00", "-01", "+1", "--1", "-", "", "1.0", "1_0", "0x1", "1e3", "one", "a", "$", "1000000",
                       "-1000000", "9999999", "-9999999", "0999999", "-0999999"):
            self.assert_bad(f"box {number} 1 1 1")
            self.assert_bad(f"head 2 {number} up")
            self.assert_bad(f"box 1 1 1 {number}")
        for size in ("0", "-1", "-999999"):
            self.assert_bad(f"frame 0 0 {size} 1")
            self.assert_bad(f"loop 0 0 1 {size}")

    def test_rows_of_thousands_of_digits(self):
        for digits in ("1" * 5000, "0" * 5000, "9" * 19000, "-" + "9" * 5000, "-" + "0" * 19000):
            self.assert_bad(f"box {digits} 1 1 1")
            self.assert_bad(f"line 0 0 {digits}")
            self.assert_bad(f"loop 0 0 1 {digits}")

    def test_bad_words_and_ways(self):
        for line in ("text 0 0 ", "text 0 0", "text 0 0 a$", "text 0 0 a b", "text 0 0 " + "a" * 37, "note 0 0 " + "a" * 7,
                     "note 0 0 ", "head 0 0", "head 0 0 ", "head 0 0 left", "head 0 0 Up", "text 0 0 a-b", "text 0 0 " + "a" * 19000):
            self.assert_bad(line)

    def test_bad_rows(self):
        for line in ("", " ", "\n", "box", "box ", "box 0 0 5", "box 0 0 5 3 1", "Box 0 0 5 3", "rect 0 0 5 3", "0 0 5 3", "line 0 1 1",
                     "line 0 2 1", "curve 0 0 0 1", "curve 0 1 1 1", "curve 0 2 1 1", "loop 0 1 1 1", "box 0 0 5 3\nbox 0 0 5 4",
                     "box 0 0 True 3", "head 0 0 True", "~", " " * 20000, "a" * 20000):
            self.assert_bad(line)

    def test_any_row_is_a_written_mark_or_bad(self):
        source = random.Random(174)
        found = 0
        for _ in range(3000):
            line = list(write_mark(random_mark(source)))
            for _ in range(source.choice((1, 1, 2))):
                at = source.randrange(len(line))
                line[at:at + source.randint(0, 1)] = source.choice(("", " ", "0", "-", "7", "a", "\n", "$", "~"))
            line = "".join(line)
            try:
                mark = read_mark(line)
            except BadMark:
                continue
            self.assertTrue(is_mark(mark))
            self.assertEqual(write_mark(mark), line)
            found += 1
        self.assertGreater(found, 300)


if __name__ == "__main__":
    unittest.main()
