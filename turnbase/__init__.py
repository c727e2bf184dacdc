"""Turnbase: groups of turnings of up to sixty places."""
