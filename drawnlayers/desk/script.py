"""Scripts: deeds that are done on a desk one after the other."""

from drawnlayers.desk.deeds import parse_deed
from drawnlayers.errors import BadDeed, NothingToRedo, NothingToUndo, Refused


def run_script(desk, script):
    """Do all deeds of a script, and return the list of their outcomes."""
    outcomes = []
    for deed in _read_script(script):
        outcomes.append(_outcome(desk, deed))
    return outcomes


def _read_script(script):
    """Return the list of the deeds of a script."""
    deeds = []
    lines = [] if script == "" else script.split("\n")
    for number, line in enumerate(lines):
        deed = parse_deed(line)
        if deed is None:
            raise BadDeed(number)
        deeds.append(deed)
    return deeds


def _outcome(desk, deed):
    """Do a deed, and tell what came of it."""
    try:
        _do_deed(desk, deed)
    except Refused:
        return "refused"
    except (NothingToUndo, NothingToRedo):
        return "nothing"
    return "done"


def _do_deed(desk, deed):
    if deed[0] == "do":
        edits = deed[1]
        desk.do(*edits)
    elif deed[0] == "undo":
        desk.undo()
    else:
        desk.redo()
