"""Lights and grades: curves, the nearest curve, and timing sheets."""
