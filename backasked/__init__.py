"""Backasked: questions after deeds on a store, asked before them, for all stores."""
