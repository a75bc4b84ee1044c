"""Toldstarts: a job scheduler that keeps the starts it has told."""
