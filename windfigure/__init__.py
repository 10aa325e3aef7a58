"""Windfigure: what a boat can do in every wind. Everything is imported from the modules."""
