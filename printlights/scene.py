"""The scenes of a sheet. A scene is never altered, for sheets of before share it: a change makes another one."""

MOST_SCENES = 20
MOST_NUMBER = 999
MOST_FRAMES = 5000
MOST_COLOUR = 2
MOST_LIGHT = 50


class Scene:
    def __init__(self, number, frames, lights, fade_in, fade_out):
        self.number = number
        self.frames = frames
        self.lights = lights
        self.fade_in = fade_in
        self.fade_out = fade_out


# place is the frame's place in its scene.
class Frame:
    def __init__(self, scene, place):
        self.scene = scene
        self.place = place


def with_lights(scene, lights):
    return Scene(scene.number, scene.frames, lights, scene.fade_in, scene.fade_out)


def with_fades(scene, fade_in, fade_out):
    return Scene(scene.number, scene.frames, scene.lights, fade_in, fade_out)


def trimmed(scene, colours, by):
    lights = list(scene.lights)
    for colour in colours:
        lights[colour] = min(max(lights[colour] + by, 0), MOST_LIGHT)
    return with_lights(scene, tuple(lights))


# Each fade must lie whole in one of the two parts, else its frames would print otherwise.
def can_be_cut(scene, n):
    return n < scene.frames and n >= scene.fade_in and scene.frames - n >= scene.fade_out


def cut_in_two(scene, n, number):
    first = Scene(scene.number, n, scene.lights, scene.fade_in, 0)
    second = Scene(number, scene.frames - n, scene.lights, 0, scene.fade_out)
    return [first, second]


# Whether a scene of this number may stand just behind the one at place: numbers rise from scene to scene.
def fits_behind(scenes, place, number):
    if number <= scenes[place].number:
        return False
    return place + 1 == len(scenes) or number < scenes[place + 1].number


def count_frames(scenes):
    return sum([scene.frames for scene in scenes])


# The scenes whose lights aren't those of the scene before, each with the frame that it begins at.
# No scene has no lights, so the first one is always among them.
def light_changes(scenes):
    found = []
    begins = 0
    lights = ()
    for scene in scenes:
        if scene.lights != lights:
            found.append((begins, scene))
        begins += scene.frames
        lights = scene.lights
    return found
