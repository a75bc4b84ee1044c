"""Limits, places of jobs on machines, and the starts that are told."""
