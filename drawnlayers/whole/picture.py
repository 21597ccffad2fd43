"""Pictures of graphs with all that is in their lots."""

from drawnlayers.errors import NoGraph
from drawnlayers.graph.build import build_graph
from drawnlayers.graph.graphs import shown_label, walk_graphs
from drawnlayers.ink.ink import Ink
from drawnlayers.ink.score import score_of
from drawnlayers.places.layout import layout_of
from drawnlayers.text.texts import read_text
from drawnlayers.whole.inking import graph_marks
from drawnlayers.whole.plan import plan_of


class Picture:
    """A root graph, drawn."""

    def __init__(self, graph):
        graphs = list(walk_graphs(graph))
        self._graph = graph
        self._plans = {name: plan_of(current, name=name) for name, current in graphs}
        self._layouts = _layouts(graphs, self._plans)
        self._origins = _origins(graphs, self._layouts)
        self._ink = _ink_of(graphs, self._plans, self._layouts, self._origins)
        self._score = score_of(self._ink)

    @property
    def graph(self):
        """The root graph."""
        return self._graph

    @property
    def ink(self):
        """The ink of the picture."""
        return self._ink

    @property
    def width(self):
        """The width of the root graph."""
        return self._layouts[""]["width"]

    @property
    def height(self):
        """The height of the root graph."""
        return self._layouts[""]["height"]

    @property
    def score(self):
        """The score of the ink."""
        return self._score

    def plan(self, name):
        """Return the plan of the graph with this name."""
        self._check(name)
        return dict(self._plans[name])

    def layout(self, name):
        """Return the layout of the graph with this name."""
        self._check(name)
        return dict(self._layouts[name])

    def origin(self, name):
        """Return the origin of the graph with this name."""
        self._check(name)
        return self._origins[name]

    def boxes(self):
        """Return the list of the boxes (name, x, y, w, h); each lot is followed by what is in it."""
        return _boxes("", self._graph, self._layouts, self._origins)

    def _check(self, name):
        if name not in self._plans:
            raise NoGraph(name)


def draw(text):
    """Return the picture of a text."""
    return Picture(build_graph(read_text(text)))


def _layouts(graphs, plans):
    """Return a dict from the name of each graph to its layout."""
    layouts = {}
    # Every graph stands behind the one in which its lot is, so that backwards the insides come first.
    for name, graph in graphs[::-1]:
        inner = {lot: (layouts[lot]["width"], layouts[lot]["height"]) for lot in _lots(graph)}
        layouts[name] = layout_of(graph, plans[name], inner)
    return layouts


def _lots(graph):
    """Return the names of the lots of a graph."""
    return [item[0] for item in graph[1] if item[4] is not None]


def _origins(graphs, layouts):
    """Return a dict from the name of each graph to its origin."""
    origins = {"": (0, 0)}
    for name, graph in graphs:
        boxes = _moved_boxes(layouts[name], origins[name])
        for item, (x, y, w, _) in zip(graph[1], boxes):
            if item[4] is not None:
                # The label of a lot has a row of its own above the inner graph.
                row = 1 if shown_label(item) != "" else 0
                margin = item[4][0][2]
                origins[item[0]] = (x + (w - layouts[item[0]]["width"]) // 2, y + margin + row)
    return origins


def _moved_boxes(layout, origin):
    """Return the boxes of a graph where they stand in the picture."""
    return [(x + origin[0], y + origin[1], w, h) for x, y, w, h in layout["boxes"]]


def _ink_of(graphs, plans, layouts, origins):
    return Ink([
        mark
        for name, graph in graphs
        for mark in graph_marks(graph, plans[name], layouts[name], origins[name])
    ])


def _boxes(name, graph, layouts, origins):
    found = []
    for item, box in zip(graph[1], _moved_boxes(layouts[name], origins[name])):
        found.append((item[0], *box))
        if item[4] is not None:
            found.extend(_boxes(item[0], item[4], layouts, origins))
    return found
