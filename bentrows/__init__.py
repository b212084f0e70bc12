"""Rows and rings of points that bend one way."""
