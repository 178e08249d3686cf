"""Totals over uneven hierarchies, decided for all hierarchies and all facts."""
