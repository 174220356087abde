"""Trees of processes, frozen and thawed by plain calls."""
