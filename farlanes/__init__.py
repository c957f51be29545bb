"""Farlanes: bijections of endless lanes that move far places by a constant."""
