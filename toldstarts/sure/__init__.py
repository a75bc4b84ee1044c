"""What is sure of the starts of some jobs, however long each of them runs."""
