"""Beatlamps: rows, rings and floors of lamps that are turned by rules."""
