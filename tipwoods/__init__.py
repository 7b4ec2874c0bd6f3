"""Tipwoods: bushes that grow at all of their tips."""
