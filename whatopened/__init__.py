"""Whatopened: what links that opened tell of a house nobody shows."""
