"""Floors on which a small window tells where it lies."""
