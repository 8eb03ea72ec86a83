"""Casknotes: casks in a public store, and notes that pass as money."""
