"""Whole amounts at desks that change them, for all ways."""
