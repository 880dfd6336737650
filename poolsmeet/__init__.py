"""Poolsmeet models water on a line, in a trough and on a ring, with exact ratios."""
