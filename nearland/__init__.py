"""Nearland: places, the one net of empty rings, and the land that lies nearest to each."""
