"""Pieces of functions, their questions, and papers of programs."""
