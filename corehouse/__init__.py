"""Corehouse: one small machine shared by turns, each user as if alone."""
