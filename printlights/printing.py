"""Printing: what a light, a curve and a fade make of a value."""

from printlights.curve import LAST_VALUE

MIDDLE_LIGHT = 25


def moved(v, light):
    return v + 2 * (light - MIDDLE_LIGHT)


def by_light(v, light):
    return min(max(moved(v, light), 0), LAST_VALUE)


def is_lost(v, light):
    return moved(v, light) < 0 or moved(v, light) > LAST_VALUE


def faded(p, scene, j):
    if j < scene.fade_in:
        return p * (j + 1) // (scene.fade_in + 1)
    left = scene.frames - j
    if left <= scene.fade_out:
        return p * left // (scene.fade_out + 1)
    return p


def printed(curve, frame, colour, v):
    p = curve[by_light(v, frame.scene.lights[colour])]
    return faded(p, frame.scene, frame.place)
