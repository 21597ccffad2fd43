"""Whole graphs and pictures."""
