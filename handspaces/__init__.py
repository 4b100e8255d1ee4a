"""Handspaces: what three hands know together and in common, for all three spaces."""
