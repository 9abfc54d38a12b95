"""Momentwright: weights told by their moments."""
