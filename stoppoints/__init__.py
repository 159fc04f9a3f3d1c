"""Stoppoints: how long code runs between two looks."""
