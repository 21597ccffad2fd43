"""Statements, lines and texts."""
