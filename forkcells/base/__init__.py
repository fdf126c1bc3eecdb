"""Integers, names, terms and frames."""
