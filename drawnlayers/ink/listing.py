"""Listings of boxes, row by row."""


class Listing:
    """One row for each box."""

    def __init__(self, boxes):
        self._boxes = tuple(boxes)

    def rows(self):
        """Return the list of the rows."""
        return [f"{name:<6}{x:>6}{y:>6}{w:>6}{h:>6}" for name, x, y, w, h in self._boxes]


class NumberedListing(Listing):
    """The rows with their numbers in front."""

    def rows(self):
        """Return the list of the rows."""
        rows = super().rows()
        return [f"{number:>3}: {row}" for number, row in enumerate(rows)]


class TitledListing(Listing):
    """The rows behind one more that tells how many boxes there are."""

    def rows(self):
        """Return the list of the rows."""
        rows = super().rows()
        return [f"boxes: {len(self._boxes)}", *rows]


class FullListing(NumberedListing, TitledListing):
    """The rows of a titled listing with their numbers in front."""

    def rows(self):
        """Return the list of the rows."""
        return super().rows()
