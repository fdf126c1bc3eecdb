"""Situations, and what is true in them."""
