"""Curvehouse: how long one may wait, told by curves."""
