"""The ways of edges: where they pass the levels, with the fewest bends."""
