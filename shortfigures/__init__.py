"""Shortfigures: numbers shown short, with units."""
