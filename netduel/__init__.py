"""A table on a net: two players, a house, clocks, and messages that are lost."""
