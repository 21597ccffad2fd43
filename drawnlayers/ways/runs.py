"""Runs of chains of spans, and ways with the fewest bends."""


def runs(chain):
    """Return the list of the pairs of the first and the last index of each run."""
    return [(first, last) for first, last, _ in _cut(chain)]


def way(chain):
    """Return the stops of the way: one number for each run, as near as can be to the number of the run before."""
    stops = []
    for first, last, shared in _cut(chain):
        stop = shared.nearest(stops[-1]) if stops else shared.low
        stops.extend([stop] * (last - first + 1))
    return tuple(stops)


def bends(stops):
    """Return how many of the stops differ from the stop behind them."""
    return len([1 for one, other in zip(stops, stops[1:]) if one != other])


def blocking_pairs(chain):
    """Return pairs of indexes whose spans have no common number, one pair for each bend of the way."""
    cut = _cut(chain)
    return tuple([_blocking_pair(chain, one[0], other[0]) for one, other in zip(cut, cut[1:])])


def check_way(chain, stops, pairs):
    """Tell whether these are stops of the chain, and blocking pairs of it, as many as the stops have bends."""
    if not all([stop in span for stop, span in zip(stops, chain)]):
        return False
    if not all([_is_blocking(chain, i, k) for i, k in pairs]):
        return False
    if not all([later[0] >= earlier[1] for earlier, later in zip(pairs, pairs[1:])]):
        return False
    return len(pairs) == bends(stops)


def _cut(chain):
    """Return for each run its first index, its last index, and the span of its common numbers."""
    found = []
    for at, span in enumerate(chain):
        shared = found[-1][2] & span if found else None
        if shared is None:
            found.append((at, at, span))
        else:
            found[-1] = (found[-1][0], at, shared)
    return found


def _blocking_pair(chain, first, end):
    """Return a pair of the run that begins at first and of the index end of the span that ends it.

    If that span had a common number with each span of the run, it would have one with all of them together.
    """
    return ([at for at in range(first, end) if chain[at] & chain[end] is None][0], end)


def _is_blocking(chain, i, k):
    return 0 <= i < k < len(chain) and chain[i] & chain[k] is None
