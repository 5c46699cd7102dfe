"""Oneforone: what the signs of a board tell of hidden values."""
