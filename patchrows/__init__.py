"""Rows of patches up to commuting: one form, needs, picked, taken out."""
