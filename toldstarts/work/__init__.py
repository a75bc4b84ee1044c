"""A house at work, its log, and a desk at which the log is changed."""
