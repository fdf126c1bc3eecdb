"""Which questions follow, and papers that show it."""
