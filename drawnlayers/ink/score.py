"""Scores: how many crossings and bends an ink has, and how far its curves go."""

from drawnlayers.ink.meeting import crossings_of


class Score:
    """Numbers of crossings, bends and moves; the less of them, the better."""

    def __init__(self, crossings, bends, moves):
        self.crossings = crossings
        self.bends = bends
        self.moves = moves

    def __add__(self, other):
        return Score(self.crossings + other.crossings, self.bends + other.bends, self.moves + other.moves)

    def __eq__(self, other):
        if not isinstance(other, Score):
            return False
        return (self.crossings, self.bends, self.moves) == (other.crossings, other.bends, other.moves)

    def __lt__(self, other):
        if not isinstance(other, Score):
            return NotImplemented
        return (self.crossings, self.bends, self.moves) < (other.crossings, other.bends, other.moves)


def score_of(ink):
    """Return the score of an ink."""
    moves = [abs(mark[3] - mark[1]) for mark in ink if mark[0] == "curve"]
    return Score(len(crossings_of(ink)), len(moves), sum(moves))
