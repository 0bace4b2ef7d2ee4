"""Aheadbook: rows in which two neighbours may change places by who stands ahead."""
