"""Rooms: amounts that claims and windows hold for some ticks."""
