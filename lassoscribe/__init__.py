"""Lassoscribe: sentences about runs without end, and what watches them."""
