"""A desk that keeps a text and its picture while lines are changed."""
