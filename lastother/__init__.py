"""Lastother: calls in a lineup."""
