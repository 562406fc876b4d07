"""Layerseen: which order of handlers a program shows."""
