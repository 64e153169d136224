"""Keptmisses: guessing under promised misses."""
