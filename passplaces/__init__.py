"""Passplaces: two files of walkers on a narrow way."""
