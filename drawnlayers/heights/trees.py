"""Trees of links, which certify best heights."""

from drawnlayers.base.paths import part_marks
from drawnlayers.heights.best import best_heights
from drawnlayers.heights.forces import best_forces
from drawnlayers.heights.spanning import length_slack, spanning_heights, spanning_tree
from drawnlayers.heights.system import keeps


def link_system(count, links):
    """Return the system in which each link is a bound and a pull."""
    return (count, tuple([link[:3] for link in links]), tuple(links))


def tree_heights(count, links):
    """Return (heights, tree, cuts): best heights, a tree for them, and its cut values, none of them negative."""
    system = link_system(count, links)
    best = best_heights(system)
    heights = spanning_heights(count, links, best)
    tree = spanning_tree(count, links, heights, best_forces(system, best))
    cuts = tuple([cut_value(count, links, tree, number) for number in tree])
    return (heights, tree, cuts)


def cut_value(count, links, tree, link):
    """Return the weights from the start part to the end part of a link of the tree, less those the other way."""
    marks = part_marks(count, [links[number][:2] for number in tree if number != link])
    start_mark = marks[links[link][0]]
    end_mark = marks[links[link][1]]
    value = 0
    for start, end, _, weight in links:
        if (marks[start], marks[end]) == (start_mark, end_mark):
            value += weight
        if (marks[start], marks[end]) == (end_mark, start_mark):
            value -= weight
    return value


def check_tree(count, links, heights, tree):
    """Tell whether the heights keep all bounds and the tree is one for them without a negative cut value."""
    if not keeps(link_system(count, links), heights):
        return False
    if any([length_slack(links[number], heights) != 0 for number in tree]):
        return False
    joined = part_marks(count, [links[number][:2] for number in tree])
    if joined != part_marks(count, [link[:2] for link in links]):
        return False
    # Each link that closes no ring joins two parts, so that there is one part less.
    if len(tree) != count - len(set(joined)):
        return False
    return all([cut_value(count, links, tree, number) >= 0 for number in tree])
