"""A ladder for trying things out."""

from shortfigures.ladders import Ladder


def sample_ladder():
    """Return a ladder with thousands and millions, one decimal, and the rounding `near`."""
    return Ladder((("", 1), ("K", 1000), ("M", 1000000)), 1, "near")
