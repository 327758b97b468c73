"""Keepsapart: books of sayings that some places of a web keep others apart."""
