"""Quoteweave: who holds what, by whom."""
