"""Machines, formulas over their marks, and choices of machines."""
