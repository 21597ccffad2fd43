"""What several tests use."""

import itertools
import random

from drawnlayers.errors import DrawError
from drawnlayers.graph.build import build_graph
from drawnlayers.graph.graphs import class_list
from drawnlayers.text.texts import read_text


def graph_of(*lines):
    return build_graph(read_text("\n".join(lines)))


def random_option_lines(source, names, many):
    """Statements of a graph without lots, some of which may not be possible."""
    lines = []
    for _ in range(many):
        chance = source.random()
        if chance < 0.15 and len(names) > 1:
            lines.append("same " + " ".join(source.sample(names, 2)))
            continue
        line = "edge " + " ".join(source.choice(names) for _ in range(source.choice((2, 2, 2, 3))))
        if source.random() < 0.3:
            line += " label=" + source.choice(("x", "", "A.1"))
        if source.random() < 0.5:
            line += f" weight={source.randint(0, 9)}"
        if source.random() < 0.3:
            line += f" span={source.randint(1, 4)}"
        if source.random() < 0.5:
            line += f" price={source.randint(1, 9)}"
        if source.random() < 0.15:
            line += " firm=yes"
        lines.append(line)
    return lines


def random_graphs(many, seed=1):
    """Graphs from random texts; a statement that is not possible is left out."""
    source = random.Random(seed)
    for _ in range(many):
        names = list("abcdefgh"[:source.randint(2, 8)])
        kept = []
        graph = build_graph(())
        for line in random_option_lines(source, names, source.randint(1, 12)):
            try:
                graph = graph_of(*kept, line)
            except DrawError:
                continue
            kept.append(line)
        yield graph


def class_of(graph):
    """A dict from each item to the number of its class."""
    return {item: number for number, members in enumerate(class_list(graph)) for item in members}


def random_system(source, count, bounds, pulls, gap, weight, rising=False):
    """A system; unless rising is True, its bounds leave heights."""
    places = [source.randint(0, 2 * gap) for _ in range(count)]

    def ends():
        return source.sample(range(count), 2)

    rows = []
    for _ in range(bounds if count > 1 else 0):
        start, end = ends()
        free = source.randint(-gap, gap)
        rows.append((start, end, free if rising else min(free, places[end] - places[start])))
    threads = []
    for _ in range(pulls if count > 1 else 0):
        threads.append((*ends(), source.randint(-gap, gap), source.randint(0, weight)))
    return (count, tuple(rows), tuple(threads))


def all_heights(count, top):
    return itertools.product(range(top + 1), repeat=count)


def random_rows(source, size, top=10 ** 9):
    return [[0 if a == b else source.randint(0, top) for b in range(size)] for a in range(size)]


def has_ring(count, arcs):
    """Whether the arcs form a ring, found by taking away what nothing leads to."""
    left = set(range(count))
    while left:
        free = {at for at in left if not any(start in left and end == at for start, end in arcs)}
        if not free:
            return True
        left -= free
    return False
