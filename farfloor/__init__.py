"""Farfloor: endless floors of coloured cells told by one piece and two steps."""
