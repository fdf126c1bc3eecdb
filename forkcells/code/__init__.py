"""Rights, functions and programs."""
