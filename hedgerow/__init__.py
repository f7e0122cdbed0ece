"""Hedgerow: branching hedges told apart by their shape."""
