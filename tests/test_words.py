"""Points 5 and 6."""

import unittest

from drawnlayers.text.words import EDGE_KEYS, GRAPH_KEYS, ITEM_KEYS, initial_values, is_label, is_name, is_value

KEYS = {"item": ITEM_KEYS, "edge": EDGE_KEYS, "graph": GRAPH_KEYS}
RANGES = {
    "item": {"width": (1, 30), "height": (1, 20)},
    "edge": {"weight": (0, 9), "span": (1, 4), "price": (1, 9)},
    "graph": {"across": (1, 9), "down": (2, 20), "margin": (1, 9)},
}
SIGNS = [chr(code) for code in range(32, 127) if code != 37] + ["\n"]
SMALL = "abcdefghijklmnopqrstuvwxyz"
PLAIN = SMALL + SMALL.upper() + "0123456789._!?"


class WordsTest(unittest.TestCase):
    def test_keys(self):
        self.assertEqual(ITEM_KEYS, ("label", "width", "height"))
        self.assertEqual(EDGE_KEYS, ("label", "weight", "span", "price", "firm"))
        self.assertEqual(GRAPH_KEYS, ("across", "down", "margin"))

    def test_names(self):
        for word in ("a", "z", "node", "abcdef", "zzzzzz"):
            self.assertIs(is_name(word), True)
        for word in ("", "abcdefg", "A", "aB", "a1", "1", "a.", "$", "a$", "a b", " a", "a ", "a\n", "\na", "a" * 999):
            self.assertIs(is_name(word), False)
        for sign in SIGNS:
            self.assertIs(is_name(sign), sign in SMALL)
            self.assertIs(is_name("a" + sign), sign in SMALL)

    def test_labels(self):
        for word in ("", "a", "Z", "0", "$", "$$$$$$", "A.1", "._!?$", "abcdef", "aB3$_!"):
            self.assertIs(is_label(word), True)
            self.assertIs(is_label(word, plain=False), True)
            self.assertIs(is_label(word, plain=True), "$" not in word)
        for word in ("abcdefg", "$$$$$$$", "a b", " ", "a\n", "\n", "a=b", "a-b", "x" * 999):
            self.assertIs(is_label(word), False)
            self.assertIs(is_label(word, plain=True), False)
        for sign in SIGNS:
            self.assertIs(is_label("a" + sign), sign in PLAIN or sign == "$")
            self.assertIs(is_label(sign, plain=True), sign in PLAIN)

    def test_initial_values(self):
        wanted = {
            "item": [("label", "$"), ("width", 1), ("height", 1)],
            "edge": [("label", ""), ("weight", 1), ("span", 1), ("price", 1), ("firm", False)],
            "graph": [("across", 2), ("down", 4), ("margin", 2)],
        }
        for kind, pairs in wanted.items():
            self.assertEqual(list(initial_values(kind).items()), pairs)
            changed = initial_values(kind)
            changed.clear()
            changed["strange"] = 1
            self.assertEqual(list(initial_values(kind).items()), pairs)
        self.assertIs(initial_values("edge")["firm"], False)

    def test_numbers_at_the_ends_of_their_ranges(self):
        for kind, ranges in RANGES.items():
            for key, (low, high) in ranges.items():
                for value in range(-3, 40):
                    self.assertIs(is_value(kind, key, value), low <= value <= high, (key, value))
                for value in (True, False, "yes", "no", str(low), "", "$", 10 ** 39, -10 ** 39):
                    self.assertIs(is_value(kind, key, value), False, (key, value))

    def test_labels_as_values(self):
        for value in ("", "a", "abcdef", "A.1", "yes"):
            self.assertIs(is_value("item", "label", value), True)
            self.assertIs(is_value("edge", "label", value), True)
        self.assertIs(is_value("item", "label", "$a"), True)
        self.assertIs(is_value("edge", "label", "$a"), False)
        for value in ("abcdefg", "a\n", "a b", 0, 1, True, False):
            self.assertIs(is_value("item", "label", value), False)
            self.assertIs(is_value("edge", "label", value), False)

    def test_firm(self):
        self.assertIs(is_value("edge", "firm", True), True)
        self.assertIs(is_value("edge", "firm", False), True)
        for value in (0, 1, "yes", "no", "", "True", -1, 2):
            self.assertIs(is_value("edge", "firm", value), False)

    def test_keys_of_other_kinds(self):
        good = {"label": "a", "firm": True, "width": 2, "height": 2, "weight": 2, "span": 2, "price": 2,
                "across": 2, "down": 2, "margin": 2}
        for kind, names in KEYS.items():
            for key, value in good.items():
                self.assertIs(is_value(kind, key, value), key in names, (kind, key))
            self.assertIs(is_value(kind, "color", 2), False)


if __name__ == "__main__":
    unittest.main()
