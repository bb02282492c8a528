"""Loaders: classes looked up, linked, and set up once."""
