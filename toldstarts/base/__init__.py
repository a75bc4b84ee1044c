"""Ticks and amounts, on which all else rests."""
