"""Tilechain: tiles with two marked ends, laid end to end."""
