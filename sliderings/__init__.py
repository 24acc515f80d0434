"""Rows whose numbers are never evenly apart, never sum alike, or are no sums."""
