"""Spansieve: sets of ticks made of unknown ones."""
