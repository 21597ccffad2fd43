"""Orders of least price, and the edges that are turned."""
