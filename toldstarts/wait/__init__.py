"""What jobs wait for: the ends of other jobs."""
