"""Names, labels, and the values of items, edges and graphs."""

ITEM_KEYS = ("label", "width", "height")
EDGE_KEYS = ("label", "weight", "span", "price", "firm")
GRAPH_KEYS = ("across", "down", "margin")

SMALL_LETTERS = "abcdefghijklmnopqrstuvwxyz"
PLAIN_SIGNS = "abcdefghijklmnopqrstuvwxyzABCDEFGHIJKLMNOPQRSTUVWXYZ0123456789._!?"
LONGEST_WORD = 6

ITEM_START = {"label": "$", "width": 1, "height": 1}
EDGE_START = {"label": "", "weight": 1, "span": 1, "price": 1, "firm": False}
GRAPH_START = {"across": 2, "down": 4, "margin": 2}

# Every key whose values are numbers, with the least and the greatest one.
RANGES = {
    "width": (1, 30),
    "height": (1, 20),
    "weight": (0, 9),
    "span": (1, 4),
    "price": (1, 9),
    "across": (1, 9),
    "down": (2, 20),
    "margin": (1, 9),
}
GREATEST_NUMBER = 30


def is_name(word):
    """Tell whether the string is a name."""
    return 1 <= len(word) <= LONGEST_WORD and all([sign in SMALL_LETTERS for sign in word])


def is_label(word, *, plain=False):
    """Tell whether the string is a label, or a plain label if plain is True."""
    if len(word) > LONGEST_WORD:
        return False
    return all([sign in PLAIN_SIGNS or (sign == "$" and not plain) for sign in word])


def keys_of(kind):
    """Return the keys of a kind: "item", "edge" or "graph"."""
    if kind == "item":
        return ITEM_KEYS
    if kind == "edge":
        return EDGE_KEYS
    return GRAPH_KEYS


def initial_values(kind):
    """Return a new dict of the initial values of a kind."""
    if kind == "item":
        return dict(ITEM_START)
    if kind == "edge":
        return dict(EDGE_START)
    return dict(GRAPH_START)


def is_value(kind, key, value):
    """Tell whether the key belongs to the kind and the value to the key."""
    if key not in keys_of(kind):
        return False
    if key == "label":
        return isinstance(value, str) and is_label(value, plain=(kind == "edge"))
    if key == "firm":
        return isinstance(value, bool)
    # True and False are instances of int, but they are no numbers here.
    if isinstance(value, bool) or not isinstance(value, int):
        return False
    low, high = RANGES[key]
    return low <= value <= high
