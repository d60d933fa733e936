"""Guisery: one-to-one letter machines, and the endless words that wear them."""
