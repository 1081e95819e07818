"""Onewayread: books of words, read in one way."""
