"""Caretakers, askers, and ways of letting go."""
