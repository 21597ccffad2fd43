"""Small tools that several parts use."""
