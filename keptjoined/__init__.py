"""Keptjoined: a store of houses and lines, asked while lines come and go."""
