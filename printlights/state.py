"""What one house keeps from call to call."""

from printlights.checks import need_key, need_place
from printlights.refusals import NotThere, NothingBefore, TooMany
from printlights.scene import Frame

MOST_CURVES = 8
MOST_CHANGES = 20


class House:
    def __init__(self):
        self.curves = {}
        self.scenes = []
        self.sheets_before = []

    def curve(self, key):
        need_key(key)
        if key not in self.curves:
            raise NotThere()
        return self.curves[key]

    def put_curve(self, key, curve):
        if key not in self.curves and len(self.curves) >= MOST_CURVES:
            raise TooMany()
        self.curves[key] = curve

    def drop_curve(self, key):
        self.curve(key)
        self.curves.pop(key)

    def scene_at(self, place):
        need_place(place)
        if place >= len(self.scenes):
            raise NotThere()
        return self.scenes[place]

    def frame_at(self, n):
        left = n
        for scene in self.scenes:
            if left < scene.frames:
                return Frame(scene, left)
            left -= scene.frames
        raise NotThere()

    # The sheet that was is kept as it is, so a change hands over a new list and never alters the old one.
    def change_sheet(self, scenes):
        self.sheets_before.append(self.scenes)
        self.sheets_before = self.sheets_before[-MOST_CHANGES:]
        self.scenes = scenes

    # Others stand in the place of one scene, as one change.
    def change_scene(self, place, others):
        self.change_sheet(self.scenes[:place] + others + self.scenes[place + 1:])

    def take_back(self):
        if len(self.sheets_before) == 0:
            raise NothingBefore()
        self.scenes = self.sheets_before.pop()
