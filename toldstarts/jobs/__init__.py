"""Jobs, their texts, and rows of like jobs."""
