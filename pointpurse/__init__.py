"""Pointpurse: purses of points, each with its story, and deeds that are told late."""
