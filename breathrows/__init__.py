"""Breathrows: bellows in a row, breathed into from both ends."""
