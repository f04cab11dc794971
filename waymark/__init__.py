"""Waymark: addresses, and patterns of the ways in them."""
