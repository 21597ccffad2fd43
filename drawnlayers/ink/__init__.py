"""Inks: sets of marks, written and read."""
