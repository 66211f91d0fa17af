"""Hourcards: a day led by whoever knew everything, played again from cards."""
