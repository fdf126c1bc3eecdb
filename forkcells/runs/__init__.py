"""Runs of programs, step by step, and what comes of them."""
