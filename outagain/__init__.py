"""Outagain: drivers who go out again every morning."""
