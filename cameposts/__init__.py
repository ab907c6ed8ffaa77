"""Cameposts: posts that point where the last one came from."""
