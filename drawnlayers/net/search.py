"""Steps of two walkers, and searching for their walks."""

from drawnlayers.net.levels import places_by_level


def joined_places(net):
    """Return for each place a dict of True for the places to which it is joined."""
    levels, segments = net
    joined = [{} for _ in levels]
    for upper, lower in segments:
        joined[upper][lower] = True
        joined[lower][upper] = True
    return joined


def reached_pairs(levels, joined, pair):
    """Return the pairs that a step reaches from a pair of the net, in ascending order."""
    firsts, seconds = joined[pair[0]], joined[pair[1]]
    return sorted([(c, d) for c in firsts for d in seconds if c != d and levels[c] == levels[d]])


def step_table(net):
    """Return a dict from each pair of the net, in ascending order on each level, to the pairs that a step reaches."""
    joined = joined_places(net)
    pairs = [(a, b) for row in places_by_level(net) for a in row for b in row if a != b]
    return {pair: reached_pairs(net[0], joined, pair) for pair in pairs}


def turned_about(pair):
    """Return the pair in which the walkers have changed places."""
    return (pair[1], pair[0])


def step_key(first, second):
    """Return what the step between two pairs has in common with just those steps that coincide with it."""
    uses = [tuple(sorted(ends)) for ends in zip(first, second)]
    return tuple(sorted(uses))


def came_from(steps, start, barred):
    """Return a dict from each pair to which a walk leads from the start to the pair before it, None for the start.

    The walks use no step whose key is in the dict `barred`.
    """
    came = {start: None}
    reached = [start]
    done = 0
    while done < len(reached):
        pair = reached[done]
        for target in steps[pair]:
            if target not in came and step_key(pair, target) not in barred:
                came[target] = pair
                reached.append(target)
        done += 1
    return came


def walk_to(came, pair):
    """Return the walk that leads to a pair."""
    walk = []
    while pair is not None:
        walk.append(pair)
        pair = came[pair]
    return tuple(walk[::-1])
