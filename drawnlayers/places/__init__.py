"""Sizes of boxes and notes, and where they are placed."""
