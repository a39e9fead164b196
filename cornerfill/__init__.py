"""Cornerfill: boards filled with corners of three cells."""
