"""Callmelt: bodies put in the place of calls."""
