"""Seats of a network divided among journeys."""
