"""Desks: a text and its picture, which change by steps."""

from drawnlayers.desk.edits import apply_edit
from drawnlayers.desk.script import run_script
from drawnlayers.desk.states import Page, first_state, stepped, stepped_back, stepped_forth
from drawnlayers.errors import BadLine, DrawError, NoLine, Refused
from drawnlayers.whole.picture import draw


class Desk:
    """Lines that can be drawn, with the steps that led to them."""

    def __init__(self, text=""):
        self._state = first_state(_page_of(text))
        self._kept = None

    def __enter__(self):
        self._kept = self._state
        return self

    def __exit__(self, kind, value, trace):
        self._state = self._kept
        self._kept = None

    @property
    def text(self):
        """The text of all lines."""
        return "\n".join(self._state.page.rows_of_text)

    @text.setter
    def text(self, value):
        self.change(value)

    @property
    def lines(self):
        """The tuple of the lines."""
        return self._state.page.rows_of_text

    @property
    def picture(self):
        """The picture of the text."""
        return self._state.page.drawn

    @property
    def ink(self):
        """The ink of the picture."""
        return self._state.page.drawn.ink

    @property
    def steps(self):
        """How many steps can be undone."""
        return len(self._state.past)

    @property
    def undone(self):
        """How many steps can be redone."""
        return len(self._state.ahead)

    @property
    def redrawn(self):
        """The names of the graphs that are new since the last change."""
        return self._state.fresh

    def do(self, *edits):
        """Do the edits one after the other, as one step."""
        if edits != ():
            self._state = stepped(self._state, _page_after(self.lines, edits))

    def undo(self):
        """Go back to the lines before the last step."""
        self._state = stepped_back(self._state)

    def redo(self):
        """Do the step that was undone last once more."""
        self._state = stepped_forth(self._state)

    def change(self, text):
        """Replace all lines by those of a text, as one step."""
        self._state = stepped(self._state, _page_of(text))

    def history(self):
        """Return the list of the lines before each step that can be undone."""
        return [page.rows_of_text for page in self._state.past]

    def would(self, *edits):
        """Return the marks of the ink that the desk would have after these edits."""
        return _page_after(self.lines, edits).drawn.ink.marks

    def tried(self, script):
        """Run a script on another desk that is like this one; return the outcomes, and its lines and marks then."""
        desk = Desk()
        desk._state = self._state
        outcomes = run_script(desk, script)
        return (outcomes, desk.lines, desk.ink.marks)


def _page_of(text):
    """Return the page with the lines of a text."""
    lines = () if text == "" else tuple(text.split("\n"))
    return Page(lines, draw(text))


def _page_after(lines, edits):
    """Return the page after the edits; only the lines behind the last one must be drawable."""
    edited = _lines_after(lines, edits)
    try:
        return _page_of_lines(edited)
    except DrawError as error:
        raise Refused(len(edits)) from error


def _lines_after(lines, edits):
    for number, edit in enumerate(edits):
        try:
            lines = apply_edit(lines, edit)
        except NoLine as error:
            raise Refused(number) from error
    return lines


def _page_of_lines(lines):
    # Joined, one empty line could not be told from no lines at all.
    if lines == ("",):
        raise BadLine(0)
    return _page_of("\n".join(lines))
