"""Risefall: rows told by their rises and falls alone."""
