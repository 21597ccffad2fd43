"""Graphs, and how they are built from statements."""
