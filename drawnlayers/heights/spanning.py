"""From best heights to a tree: tight links that join all, and carry the forces."""

from drawnlayers.base.paths import part_marks, shortest_path


def length_slack(link, heights):
    """Return by how much the length of a link is greater than its gap."""
    return heights[link[1]] - heights[link[0]] - link[2]


def spanning_heights(count, links, heights):
    """Return best heights at which any two connected unknowns are connected by links without slack.

    The heights given are the least best ones. A part that is joined by links without slack can be moved up or
    down by 1; as neither is better, moving it costs nothing, until another link comes to be without slack.
    At first each part has an unknown at 0 (otherwise it could be lower), and it then joins one that was not
    moved; so in the end each part still has an unknown at 0.
    """
    lifted = list(heights)
    marks = _tight_marks(count, links, lifted)
    loose = _links_between(links, marks)
    while loose:
        part = marks[loose[0][0]]
        rise = min([length_slack(link, lifted) for link in loose if marks[link[0]] == part])
        lifted = [height + rise if marks[at] == part else height for at, height in enumerate(lifted)]
        marks = _tight_marks(count, links, lifted)
        loose = _links_between(links, marks)
    return tuple(lifted)


def spanning_tree(count, links, heights, forces):
    """Return a tree for the heights; the forces support them, so that its cut values are not negative."""
    flows = _forest_flows(links, forces)
    forest = [number for number in range(len(links)) if flows[number] > 0]
    marks = part_marks(count, [links[number][:2] for number in forest])
    for number, link in enumerate(links):
        if length_slack(link, heights) == 0 and marks[link[0]] != marks[link[1]]:
            forest.append(number)
            marks = part_marks(count, [links[member][:2] for member in forest])
    return tuple(sorted(forest))


def _tight_marks(count, links, heights):
    return part_marks(count, [link[:2] for link in links if length_slack(link, heights) == 0])


def _links_between(links, marks):
    return [link for link in links if marks[link[0]] != marks[link[1]]]


def _forest_flows(links, forces):
    """Return flows on the links that balance their weights, and are positive on no ring of links.

    With every pull at its full weight, what it then pulls too much is borne by the bound of the same link;
    that is nothing for a link with slack, so all flow is on links without slack.
    """
    pull_forces, bound_forces = forces
    flows = [bound_forces[at] + link[3] - pull_forces[at] for at, link in enumerate(links)]
    forest = []
    for number in range(len(links)):
        if flows[number] > 0:
            changes = _ring_changes(links, forest, number)
            flows = _pushed(flows, changes)
            forest = [member for member in [*forest, number] if flows[member] > 0]
    return flows


def _ring_changes(links, forest, number):
    """Return how flow can change on the ring that the link closes in the forest: a dict of 1 and -1, less on the link.

    The dict is empty if the link closes no ring.
    """
    ends = [links[member][:2] for member in forest]
    back = [(end, start) for start, end in ends]
    start, end = links[number][:2]
    path = shortest_path(ends + back, end, start)
    if path is None:
        return {}
    changes = {number: -1}
    for at in path:
        if at < len(forest):
            changes[forest[at]] = -1
        else:
            changes[forest[at - len(forest)]] = 1
    return changes


def _pushed(flows, changes):
    """Change flows as far as none of them becomes negative."""
    if not changes:
        return flows
    amount = min([flows[number] for number in changes if changes[number] < 0])
    return [flow + amount * changes.get(number, 0) for number, flow in enumerate(flows)]
