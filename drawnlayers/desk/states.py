"""States of a desk, none of which ever changes: a desk goes from one of them to another one."""

from drawnlayers.errors import NothingToRedo, NothingToUndo
from drawnlayers.graph.graphs import walk_graphs


class Page:
    """Lines, and the picture of their text."""

    def __init__(self, rows_of_text, drawn):
        self.rows_of_text = rows_of_text
        self.drawn = drawn


class State:
    """The page of a desk, those to which it can go back and forth (the nearest one last), and its redrawn graphs."""

    def __init__(self, page, past, ahead, fresh):
        self.page = page
        self.past = past
        self.ahead = ahead
        self.fresh = fresh


def first_state(page):
    """Return the state of a new desk."""
    return State(page, (), (), _fresh_graphs(page.drawn.graph, ()))


def stepped(state, page):
    """Return the state after a step to another page."""
    return _turned_to(state, page, (*state.past, state.page), ())


def stepped_back(state):
    """Return the state after the last step has been undone."""
    if not state.past:
        raise NothingToUndo()
    return _turned_to(state, state.past[-1], state.past[:-1], (*state.ahead, state.page))


def stepped_forth(state):
    """Return the state after the step that was undone last has been done once more."""
    if not state.ahead:
        raise NothingToRedo()
    return _turned_to(state, state.ahead[-1], (*state.past, state.page), state.ahead[:-1])


def _turned_to(state, page, past, ahead):
    before = state.page.drawn.graph
    return State(page, past, ahead, _fresh_graphs(page.drawn.graph, [graph for _, graph in walk_graphs(before)]))


def _fresh_graphs(root, before):
    """Return the names of the graphs of a root that are not equal to any of the graphs before."""
    return tuple([name for name, graph in walk_graphs(root) if graph not in before])
