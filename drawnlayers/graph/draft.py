"""Graphs while they are built. Every value is kept as a pair (value, origin)."""

from drawnlayers.base.rings import find_ring
from drawnlayers.text.words import EDGE_KEYS, GRAPH_KEYS, ITEM_KEYS, initial_values


def first_values(kind):
    """Return the initial values of a kind; they have no origin."""
    found = initial_values(kind)
    return {key: (found[key], None) for key in found}


def with_options(values, options, line):
    """Return a copy of the values in which the options stand with their origin."""
    changed = dict(values)
    for key, value in options:
        changed[key] = (value, line)
    return changed


def bare_values(values, names):
    """Return the values under the given keys, without their origins."""
    return tuple([values[key][0] for key in names])


class DraftItem:
    """An item that is built; inner is a draft, or None for a node."""

    def __init__(self, name, values, inner):
        self.name = name
        self.held = values
        self.inner = inner


class DraftEdge:
    """An edge that is built."""

    def __init__(self, tail, head, values):
        self.tail = tail
        self.head = head
        self.held = values

    def is_loop(self):
        """Tell whether the edge ends where it begins."""
        return self.tail == self.head

    def value(self, key):
        """Return the value of the edge under a key."""
        return self.held[key][0]


class Draft:
    """A graph that is built."""

    def __init__(self, name, depth, settings):
        self.name = name
        self.depth = depth
        self.settings = settings
        self.members = []
        self.numbers = {}
        self.class_marks = []
        self.edges = []

    def has(self, name):
        """Tell whether the name is an item of this graph."""
        return name in self.numbers

    def add_item(self, name, values, inner):
        """Add an item in a class of its own behind the others."""
        number = len(self.members)
        self.numbers[name] = number
        self.class_marks.append(number)
        self.members.append(DraftItem(name, values, inner))

    def change_item(self, name, options, line):
        """Replace values of an item."""
        item = self.members[self.numbers[name]]
        item.held = with_options(item.held, options, line)

    def add_edge(self, first, second, values):
        """Add an edge between two names, and return it."""
        edge = DraftEdge(self.numbers[first], self.numbers[second], values)
        self.edges.append(edge)
        return edge

    def unite(self, names):
        """Make one class of all classes in which the named items are."""
        joined = [self.class_marks[self.numbers[name]] for name in names]
        kept = min(joined)
        self.class_marks = [kept if mark in joined else mark for mark in self.class_marks]

    def is_flat(self, edge):
        """Tell whether an edge joins two items of one class."""
        return not edge.is_loop() and self.class_marks[edge.tail] == self.class_marks[edge.head]

    def has_firm_ring(self):
        """Tell whether firm edges form a ring, gone from class to class."""
        marks = self.class_marks
        firm = [edge for edge in self.edges if edge.value("firm") and not edge.is_loop()]
        arcs = [(marks[edge.tail], marks[edge.head]) for edge in firm]
        return find_ring(len(marks), arcs) is not None

    def listed_classes(self):
        """Return the classes with at least two members, in ascending order."""
        numbers = range(len(self.class_marks))
        classes = [tuple([k for k in numbers if self.class_marks[k] == mark]) for mark in numbers]
        return tuple([members for members in classes if len(members) > 1])

    def finished(self):
        """Return the graph as a tuple."""
        items = tuple([_finished_item(item) for item in self.members])
        edges = tuple([_finished_edge(edge) for edge in self.edges])
        return (bare_values(self.settings, GRAPH_KEYS), items, self.listed_classes(), edges)


def _finished_item(item):
    label, width, height = bare_values(item.held, ITEM_KEYS)
    inner = item.inner.finished() if item.inner is not None else None
    return (item.name, label, width, height, inner)


def _finished_edge(edge):
    values = bare_values(edge.held, EDGE_KEYS)
    return (edge.tail, edge.head, *values)
