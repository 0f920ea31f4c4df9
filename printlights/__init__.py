"""Lights and grades: curves, the nearest curve, timing sheets, printing and the choice of lights."""
