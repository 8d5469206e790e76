"""Hornmill: the machine of Prolog."""
