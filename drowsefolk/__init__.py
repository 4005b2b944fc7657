"""Drowsefolk: folk who wake and sleep by those who watch, and all that can come of it."""
