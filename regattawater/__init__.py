"""The water of a regatta: its marks, lines, lands and courses, told by a text."""
