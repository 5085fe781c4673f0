"""Spoolhall: a hall of printers, its jobs, its line and its book."""
