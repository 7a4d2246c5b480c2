"""Evenlead: pairs of texts that are told at unlike paces, and read in step."""
