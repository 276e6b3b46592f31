"""Crossedwishes: two ends that agree by letters."""
