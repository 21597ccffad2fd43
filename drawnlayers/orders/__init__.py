"""Orders of the levels of a net, and their crossings."""
