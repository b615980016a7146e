"""The least table of flows of a small program: one set of sorts for each place."""
