"""Accounts and their use, and scores by which jobs are ranked."""
