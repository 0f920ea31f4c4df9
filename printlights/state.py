"""What one house keeps from call to call."""

from printlights.checks import need_key
from printlights.refusals import NotThere, TooMany

MOST_CURVES = 8
MOST_CHANGES = 20


class House:
    def __init__(self):
        self.curves = {}
        self.scenes = []
        self.sheets_before = []

    def curve(self, key):
        need_key(key)
        if key not in self.curves:
            raise NotThere()
        return self.curves[key]

    def put_curve(self, key, curve):
        if key not in self.curves and len(self.curves) >= MOST_CURVES:
            raise TooMany()
        self.curves[key] = curve

    def drop_curve(self, key):
        self.curve(key)
        self.curves.pop(key)

    # The sheet that was is kept as it is, so a change hands over a new list and never alters the old one.
    def change_sheet(self, scenes):
        self.sheets_before.append(self.scenes)
        self.sheets_before = self.sheets_before[-MOST_CHANGES:]
        self.scenes = scenes
