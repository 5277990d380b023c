"""Rangebook: sums and least ones over any stretch of a row."""
