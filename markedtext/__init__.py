"""Escapes for four places of marked text, and data put at marks."""
