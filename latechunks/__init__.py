"""Chunks of parallel loops, and how late they can be."""
