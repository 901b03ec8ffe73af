"""Huelists: places with lists of hues of their own."""
