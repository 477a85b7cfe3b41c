"""Unlikekeys: rows in many houses, and no key twice."""
