"""Nets of items and stations."""
