"""Slowshift: a table that grows a little at each deed."""
