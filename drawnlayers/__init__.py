"""Texts of graphs drawn in layers."""
