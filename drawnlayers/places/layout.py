"""The layout of a graph: where its boxes stand, and how its edges go."""

from drawnlayers.heights.best import best_heights
from drawnlayers.net.along import places_along, segments_along
from drawnlayers.places.levels import level_floors, level_tops
from drawnlayers.places.offsets import offsets
from drawnlayers.places.sizes import box_sizes, full_widths, note_of
from drawnlayers.places.system import place_system
from drawnlayers.ways.runs import way
from drawnlayers.ways.slots import slot_of
from drawnlayers.ways.spans import Span


def layout_of(graph, plan, inner):
    """Return the layout of a graph, as a dict; inner has the sizes of the insides of its lots."""
    layout = _placed(graph, plan, inner)
    chains = [_chain_of(graph, plan, layout, edge) for edge in range(len(graph[3]))]
    layout["chains"] = tuple([None if chain is None else _as_pairs(chain) for chain in chains])
    layout["ways"] = tuple([None if chain is None else way(chain) for chain in chains])
    return layout


def _placed(graph, plan, inner):
    """Return the layout without the chains and ways of its edges."""
    sizes = box_sizes(graph, plan, inner)
    widths = full_widths(graph, plan, inner)
    stations = range(len(sizes), len(widths))
    heights = [size[1] for size in sizes] + [_station_height(graph, plan, place) for place in stations]
    positions = best_heights(place_system(graph, plan, inner))
    tops = level_tops(graph, plan, heights)
    floors = level_floors(plan, tops, heights)
    return {
        "widths": widths,
        "heights": tuple(heights),
        "offsets": offsets(graph, plan, inner),
        "positions": positions,
        "tops": tops,
        "width": max([x + width for x, width in zip(positions, widths)], default=0),
        "height": floors[-1] if floors else 0,
        "boxes": tuple([(positions[item], tops[plan["levels"][item]], *size[:2]) for item, size in enumerate(sizes)]),
    }


def _station_height(graph, plan, place):
    return 0 if note_of(graph, plan, place) is None else 1


def _chain_of(graph, plan, layout, edge):
    """Return the chain of an edge, or None for a loop."""
    numbers = segments_along(plan, edge)
    if numbers == []:
        return None
    places = places_along(plan, edge)
    attached = layout["offsets"]
    begin = layout["positions"][places[0]] + attached[numbers[0]][0]
    end = layout["positions"][places[-1]] + attached[numbers[-1]][1]
    slots = [slot_of(graph, plan, layout, place) for place in places[1:-1]]
    return (Span.at(begin), *slots, Span.at(end))


def _as_pairs(chain):
    return tuple([(span.low, span.high) for span in chain])
