"""Bringhome: words that bring rooms together."""
