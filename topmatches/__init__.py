"""Topmatches: the ranking behind lists of suggestions."""
