"""Roadshare: what the roads to one market cost, and who pays it."""
