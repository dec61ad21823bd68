"""Nearkinds: kinds of nearness between places, told by tables."""
