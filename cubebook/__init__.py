"""Cubebook: sums over many ways of parting a table."""
