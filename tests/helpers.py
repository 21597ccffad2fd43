"""What several tests use."""

import itertools
import random

from drawnlayers.errors import DrawError, TooWide
from drawnlayers.graph.build import build_graph
from drawnlayers.graph.graphs import class_list, shown_label
from drawnlayers.text.texts import read_text
from drawnlayers.whole.picture import draw
from drawnlayers.whole.plan import plan_of


def graph_of(*lines):
    return build_graph(read_text("\n".join(lines)))


def random_option_lines(source, names, many):
    """Statements of a graph without lots, some of which may not be possible."""
    lines = []
    for _ in range(many):
        chance = source.random()
        if chance < 0.15 and len(names) > 1:
            lines.append("same " + " ".join(source.sample(names, 2)))
            continue
        line = "edge " + " ".join(source.choice(names) for _ in range(source.choice((2, 2, 2, 3))))
        if source.random() < 0.3:
            line += " label=" + source.choice(("x", "", "A.1"))
        if source.random() < 0.5:
            line += f" weight={source.randint(0, 9)}"
        if source.random() < 0.3:
            line += f" span={source.randint(1, 4)}"
        if source.random() < 0.5:
            line += f" price={source.randint(1, 9)}"
        if source.random() < 0.15:
            line += " firm=yes"
        lines.append(line)
    return lines


def random_graphs(many, seed=1):
    """Graphs from random texts; a statement that is not possible is left out."""
    source = random.Random(seed)
    for _ in range(many):
        names = list("abcdefgh"[:source.randint(2, 8)])
        kept = []
        graph = build_graph(())
        for line in random_option_lines(source, names, source.randint(1, 12)):
            try:
                graph = graph_of(*kept, line)
            except DrawError:
                continue
            kept.append(line)
        yield graph


def class_of(graph):
    """A dict from each item to the number of its class."""
    return {item: number for number, members in enumerate(class_list(graph)) for item in members}


def random_system(source, count, bounds, pulls, gap, weight, rising=False):
    """A system; unless rising is True, its bounds leave heights."""
    places = [source.randint(0, 2 * gap) for _ in range(count)]

    def ends():
        return source.sample(range(count), 2)

    rows = []
    for _ in range(bounds if count > 1 else 0):
        start, end = ends()
        free = source.randint(-gap, gap)
        rows.append((start, end, free if rising else min(free, places[end] - places[start])))
    threads = []
    for _ in range(pulls if count > 1 else 0):
        threads.append((*ends(), source.randint(-gap, gap), source.randint(0, weight)))
    return (count, tuple(rows), tuple(threads))


def all_heights(count, top):
    return itertools.product(range(top + 1), repeat=count)


def random_rows(source, size, top=10 ** 9):
    return [[0 if a == b else source.randint(0, top) for b in range(size)] for a in range(size)]


def has_ring(count, arcs):
    """Whether the arcs form a ring, found by taking away what nothing leads to."""
    left = set(range(count))
    while left:
        free = {at for at in left if not any(start in left and end == at for start, end in arcs)}
        if not free:
            return True
        left -= free
    return False


def random_rich_graphs(many, seed=1):
    """Graphs as random_graphs makes them, with settings, and with labels and sizes at their items; some are lots."""
    source = random.Random(seed)
    for settings, items, classes, edges in random_graphs(many, seed):
        settings = (source.randint(1, 9), source.randint(2, 20), source.randint(1, 9))
        rich = []
        for item in items:
            label = source.choice(("", "$", "A.1", "$$", "long_1"))
            inner = None
            if source.random() < 0.3:
                inner = ((2, 4, source.randint(1, 9)), (), (), ())
            rich.append((item[0], label, source.randint(1, 30), source.randint(1, 20), inner))
        yield (settings, tuple(rich), classes, edges)


def random_insides(source, graph, top=40):
    """Sizes of the insides of the lots of a graph."""
    return {item[0]: (source.randint(0, top), source.randint(0, top)) for item in graph[1] if item[4] is not None}


def planned_graphs(many, seed=1):
    """Graphs as random_rich_graphs makes them, with their plans and sizes for their lots."""
    source = random.Random(seed)
    for graph in random_rich_graphs(many, seed):
        try:
            yield graph, plan_of(graph), random_insides(source, graph)
        except TooWide:
            continue


def random_texts(many, seed=1):
    """Texts with groups, lots, defaults and classes that can be built."""
    source = random.Random(seed)
    for _ in range(many):
        kept, opened = [], 0
        for _ in range(source.randint(1, 30)):
            line = random_line(source)
            deeper = opened + (line.split(" ")[0] in ("group", "lot")) - (line == "end")
            try:
                graph_of(*kept, line, *["end"] * max(deeper, 0))
            except DrawError:
                continue
            kept.append(line)
            opened = deeper
        yield "\n".join(kept + ["end"] * opened)


def random_line(source):
    def options(*words):
        return "".join(" " + word for word in words if source.random() < 0.4)

    word = source.choice(("node", "node", "lot", "edge", "edge", "edge", "nodes", "edges", "graph", "same", "group", "end"))
    name = source.choice("abcdefghijkl")
    boxes = (f"label={source.choice(('', '$', 'A'))}", f"width={source.choice((1, 1, 30))}", f"height={source.choice((1, 20))}")
    joints = (f"weight={source.choice((0, 1, 9))}", f"span={source.choice((1, 4))}", f"price={source.choice((1, 9))}",
              f"firm={source.choice(('yes', 'no'))}")
    rooms = (f"across={source.choice((1, 2, 9))}", f"down={source.choice((2, 4, 20))}", f"margin={source.choice((1, 2, 9))}")
    if word in ("node", "lot"):
        return f"{word} {name}" + options(*boxes)
    if word == "edge":
        names = source.sample("abcdefghijkl", source.randint(1, 3)) + [name]
        return "edge " + " ".join(names) + options(f"label={source.choice(('', 'x'))}", *joints)
    if word == "same":
        return "same " + " ".join(source.sample("abcdefghijkl", source.randint(2, 3)))
    if word == "nodes":
        return "nodes" + (options(*boxes) or " width=3")
    if word == "edges":
        return "edges" + (options(*joints) or " span=2")
    if word == "graph":
        return "graph" + (options(*rooms) or " down=9")
    return word


def level_rows(net):
    """The places of each level, ascending."""
    return [tuple(place for place, at in enumerate(net[0]) if at == level) for level in range(max(net[0], default=-1) + 1)]


def all_orders(net):
    return itertools.product(*[itertools.permutations(row) for row in level_rows(net)])


def random_orders(source, net):
    return tuple(tuple(source.sample(row, len(row))) for row in level_rows(net))


def crossings_by_words(net, orders):
    """Point 44 and point 51, straight."""
    levels, segments = net
    found = 0
    for (up, low), (other_up, other_low) in itertools.combinations(segments, 2):
        if levels[up] != levels[other_up]:
            continue
        row, next_row = orders[levels[up]], orders[levels[up] + 1]
        is_left = row.index(up) < row.index(other_up)
        is_right = row.index(up) > row.index(other_up)
        ends_left = next_row.index(low) < next_row.index(other_low)
        ends_right = next_row.index(low) > next_row.index(other_low)
        found += (is_left and ends_right) or (is_right and ends_left)
    return found


def shuffled_rows(source, sizes):
    """Levels with so many places, numbered in any order, and the places of each of them."""
    levels = [level for level, many in enumerate(sizes) for _ in range(many)]
    source.shuffle(levels)
    rows = level_rows((levels, ()))
    return tuple(levels), rows


def random_net(source, sizes, most):
    """A net with up to so many segments between two levels; some may stand twice."""
    levels, rows = shuffled_rows(source, sizes)
    segments = [(source.choice(uppers), source.choice(lowers))
                for uppers, lowers in zip(rows, rows[1:]) for _ in range(source.randint(0, min(most, 13)))]
    source.shuffle(segments)
    return (levels, tuple(segments))


def random_strips(source, sizes, kept=1.0):
    """A net that some orders draw without a crossing; each segment of a full one is kept with this chance."""
    levels, rows = shuffled_rows(source, sizes)
    rows = [source.sample(row, len(row)) for row in rows]
    segments = []
    for uppers, lowers in zip(rows, rows[1:]):
        at = below = 0
        strip = [(uppers[0], lowers[0])]
        while len(strip) < len(uppers) + len(lowers) - 1:
            if below == len(lowers) - 1 or (at < len(uppers) - 1 and source.random() < 0.5):
                at += 1
            else:
                below += 1
            strip.append((uppers[at], lowers[below]))
        segments.extend(segment for segment in strip if source.random() < kept)
    source.shuffle(segments)
    return (levels, tuple(segments))


def small_nets(many, seed):
    """Nets small enough for a search through all orders."""
    source = random.Random(seed)
    for _ in range(many):
        sizes = source.choice(([2, 2], [3, 3], [2, 3, 2], [4, 3], [1, 3, 3], [3, 1, 3], [2, 2, 2, 2], [3, 3, 3], [4]))
        yield random_net(source, sizes, source.choice((3, 6, 9)))


# The most places, and the most of them on a level, that point 42 allows.
GREAT_SIZES = ([7, 7, 7, 7, 7, 1], [1, 7, 7, 7, 7, 7], [6] * 6, [5, 7, 7, 7, 7, 3], [1] * 36, [2] * 18)


def great_nets(many, seed):
    """Nets at the bounds of point 42: full ones, broken ones and any ones."""
    source = random.Random(seed)
    for _ in range(many):
        sizes = source.choice(GREAT_SIZES)
        if source.random() < 0.3:
            yield random_net(source, sizes, 13)
            continue
        levels, segments = random_strips(source, sizes, source.choice((1.0, 0.9, 0.5, 0.1)))
        rows = level_rows((levels, ()))
        if segments and source.random() < 0.5:
            level = levels[segments[0][0]]
            moved = (source.choice(rows[level]), source.choice(rows[level + 1]))
            segments = (moved, *segments[1:])
        yield (levels, segments)


def nested_lines(source, names, depth):
    """Lines of a graph with lots in lots, which take their names from the list."""
    lines, own = [], []
    if source.random() < 0.5:
        lines.append(f"graph across={source.choice((1, 2, 9))} down={source.choice((2, 3, 20))} margin={source.choice((1, 4, 9))}")
    for _ in range(source.randint(1, 6)):
        if not names:
            break
        own.append(names.pop())
        options = "".join(option for option in (
            " label=" + source.choice(("", "$$", "A.1", "$$$$$$", "x")), f" width={source.choice((1, 2, 11, 30))}",
            f" height={source.choice((1, 4, 20))}") if source.random() < 0.4)
        if depth < 3 and source.random() < 0.3:
            lines += [f"lot {own[-1]}{options}", *nested_lines(source, names, depth + 1), "end"]
        else:
            lines.append(f"node {own[-1]}{options}")
    for _ in range(source.choice((0, 2, 5, 9, 12)) if own else 0):
        tail, head = (source.choice(own) for _ in range(2))
        options = ("",) if tail == head else (f" label={source.choice(('', 'x', 'yes', 'long.1'))}", "", "")
        options = source.choice(options) + source.choice(("", f" weight={source.randint(0, 9)}"))
        lines.append(f"edge {tail} {head}{options}" + source.choice(("", "", f" span={source.randint(1, 4)}", " price=3")))
    if len(own) > 2 and source.random() < 0.2:
        lines.append("same " + " ".join(source.sample(own, 2)))
    return lines


def nested_texts(many, seed=1):
    """Texts with lots in lots, many edges and settings of every size, all of which can be built."""
    source = random.Random(seed)
    while many > 0:
        names = ["abcdefghijklmnopqrst"[at] * source.choice((1, 1, 2, 6)) for at in range(20)]
        source.shuffle(names)
        text = "\n".join(nested_lines(source, names, 0))
        try:
            build_graph(read_text(text))
        except DrawError:
            continue
        many -= 1
        yield text


def crossed_texts(many, seed=1):
    """Texts of graphs in two or three layers with many edges between them, some in a lot."""
    source = random.Random(seed)
    for _ in range(many):
        lines = [f"graph across={source.randint(1, 4)} down={source.randint(2, 5)}"]
        rows = source.choice((("abc", "def"), ("ab", "cd", "ef"), ("abcd", "efgh"), ("a", "bcd", "efg"), ("abc", "d", "efg")))
        for row in rows[:1]:
            lines.extend(f"node {name} width={source.choice((1, 20))}" for name in row)
        for _ in range(source.randint(5, 12)):
            at = source.randrange(len(rows) - 1)
            below = rows[min(at + source.choice((1, 1, 2)), len(rows) - 1)]
            ends = [source.choice(rows[at]), source.choice(below)]
            lines.append("edge " + " ".join(ends) + source.choice(("", "", " label=x", " span=2", " span=3")))
        if source.random() < 0.5:
            lines = ["lot z", *lines, "end", "edge z y label=out", "edge z z"]
        yield "\n".join(lines)


def many_pictures(many, seed=1):
    """Pairs of texts of several kinds and their pictures."""
    for texts in (nested_texts(many, seed), crossed_texts(many, seed), random_texts(many, seed)):
        for text in texts:
            try:
                yield text, draw(text)
            except TooWide:
                continue


def reading_of(picture):
    """What point 77 must read back from the ink of a picture: the boxes and the edges of its graphs."""
    rectangles, edges = [], []

    def add(name, graph, holder):
        x, y = picture.origin(name)
        own = []
        for item, box in zip(graph[1], picture.layout(name)["boxes"]):
            own.append((box[0] + x, box[1] + y))
            word = "box" if item[4] is None else "frame"
            rectangles.append((*own[-1], *box[2:], word, shown_label(item), holder))
            if item[4] is not None:
                add(item[0], item[4], own[-1])
        edges.extend((own[edge[0]], own[edge[1]], edge[2]) for edge in graph[3])

    add("", picture.graph, None)
    rectangles.sort(key=lambda row: row[:2])
    numbers = {row[:2]: number for number, row in enumerate(rectangles)}
    numbers[None] = None
    rows = tuple((*row[:6], numbers[row[6]]) for row in rectangles)
    return (rows, tuple(sorted((numbers[tail], numbers[head], label) for tail, head, label in edges)))
