"""Points 5 and 95: deeds and their written forms."""

import random
import unittest

from drawnlayers.desk.deeds import read_deed, write_deed
from drawnlayers.errors import BadDeed, DrawError

WRITTEN = {
    "undo": ("undo",),
    "redo": ("redo",),
    "put 0 group ; put 1 end": ("do", (("put", 0, "group"), ("put", 1, "end"))),
    "put 0 undo": ("do", (("put", 0, "undo"),)),
    "put 999 edge a b label=": ("do", (("put", 999, "edge a b label="),)),
    "put 7 take 3": ("do", (("put", 7, "take 3"),)),
    "put 0 a  b": ("do", (("put", 0, "a  b"),)),
    "put 0 7": ("do", (("put", 0, "7"),)),
    "take 0": ("do", (("take", 0),)),
    "take 999": ("do", (("take", 999),)),
    "move 0 999": ("do", (("move", 0, 999),)),
    "move 10 10 ; take 5 ; put 3 x ; take 3": ("do", (("move", 10, 10), ("take", 5), ("put", 3, "x"), ("take", 3))),
}
SIGNS = "".join(chr(code) for code in range(32, 127) if code != 37 and chr(code) != ";")


def random_edit(source):
    at, to = (source.choice((0, 1, 9, 10, 99, 100, 999)) for _ in range(2))
    line = "".join(source.choice(SIGNS) for _ in range(source.choice((1, 2, 9, 200)))).strip() or "x"
    return source.choice((("put", at, line), ("take", at), ("move", at, to)))


class DeedsTest(unittest.TestCase):
    def assert_bad(self, line):
        with self.assertRaises(BadDeed, msg=line[:60]) as caught:
            read_deed(line)
        self.assertEqual(caught.exception.line, 0)
        self.assertIsInstance(caught.exception, DrawError)

    def test_there_and_back(self):
        for written, deed in WRITTEN.items():
            self.assertEqual(read_deed(written), deed)
            self.assertEqual(write_deed(deed), written)

    def test_many_deeds_there_and_back(self):
        source = random.Random(95)
        for _ in range(300):
            deed = ("do", tuple(random_edit(source) for _ in range(source.choice((1, 1, 2, 5, 9)))))
            self.assertEqual(read_deed(write_deed(deed)), deed)

    def test_the_longest_line(self):
        for line in ("x" * 200, "a" + " " * 198 + "b"):
            self.assertEqual(read_deed("put 0 " + line), ("do", (("put", 0, line),)))
        for line in ("x" * 201, "a" + " " * 199 + "b", "x" * 2900):
            self.assert_bad("put 0 " + line)
            self.assert_bad("take 0 ; put 0 " + line + " ; take 0")

    def test_bad_words(self):
        for line in ("", " ", "do", "Undo", "undo ", " undo", "undo undo", "undo 1", "undo ; redo", "undo ; take 0", "take 0 ; undo", "redo\n",
                     "group", "puts 0 a", "Take 0", "0", ";", " ; ", "take", "put", "move", "edge a b"):
            self.assert_bad(line)

    def test_bad_numbers(self):
        for number in ("", "00", "01", "-0", "-1", "+1", "1000", "9999", "1.0", "0x1", "1_0", "a", "1" * 2900, "0" * 2900, "9" * 1000):
            for line in (f"take {number}", f"move {number} 0", f"move 0 {number}", f"put {number} x", f"take 0 ; take {number}"):
                self.assert_bad(line)
        self.assert_bad("put 0")
        self.assert_bad("put 0 ")
        self.assert_bad("take 0 0")
        self.assert_bad("move 0")
        self.assert_bad("move 0 0 0")

    def test_bad_spaces(self):
        for line in WRITTEN:
            for bad in (line + " ", " " + line, line.replace(" ", "  ", 1) if " " in line else "", line + " ;", "; " + line, line + " ; ",
                        " ; " + line, line.replace(" ", "\n", 1) + "\n", line + "\n", "\n" + line):
                self.assert_bad(bad)

    def test_bad_semicolons(self):
        for line in ("take 0;take 1", "take 0; take 1", "take 0 ;take 1", "take 0  ; take 1", "take 0 ;  take 1", "take 0 ; ; take 1",
                     "put 0 a;b", "put 0 ;", "put 0 ; take 1", "put 0 a ;; take 0", "put 0 a;", "put 0 ;a", "take 0 ; put 0 a;b"):
            self.assert_bad(line)

    def test_bad_lines(self):
        for line in ("put 0  a", "put 0 a ", "put 0 a\nb", "put 0 \n", "put 0  ", "put 0 a\n"):
            self.assert_bad(line)

    def test_each_character_of_a_line(self):
        for sign in SIGNS + ";\n":
            written = "put 0 a" + sign + "b"
            if sign in ";\n":
                self.assert_bad(written)
            else:
                self.assertEqual(read_deed(written), ("do", (("put", 0, "a" + sign + "b"),)))

    def test_any_line_is_a_written_deed_or_bad(self):
        source = random.Random(195)
        found = 0
        for _ in range(3000):
            line = list(source.choice(tuple(WRITTEN)))
            for _ in range(source.choice((1, 1, 2))):
                at = source.randrange(len(line) + 1)
                line[at:at + source.randint(0, 1)] = source.choice(("", " ", "0", "-", "7", "a", "\n", ";", " ; ", "~"))
            line = "".join(line) or "x"
            try:
                deed = read_deed(line)
            except BadDeed:
                continue
            self.assertEqual(write_deed(deed), line)
            found += 1
        self.assertGreater(found, 300)


if __name__ == "__main__":
    unittest.main()
