"""Twainhoard: what two gain together, shared so that nobody has better."""
