"""Orders of the steps of runs, and races in them."""
