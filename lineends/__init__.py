"""Lineends: conversions of line endings one after another."""
