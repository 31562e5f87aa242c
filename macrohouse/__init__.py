"""Macrohouse: names mean what they meant where they were written."""
