"""Benches: scripts of settings and steps, and a world whose steps are done, undone and done again."""

from answergate.errors import BadScript, BadStep
from answergate.scenes import Scene, world_new
from answergate.scripts import script_lines, settings_of, steps_of
from answergate.steps import play, played


def script_text(settings, steps):
    """The script of settings and a tuple of steps."""
    # It raises what is to be raised.
    played(settings, steps)
    return "\n".join(script_lines(settings, steps))


def read_script(text):
    """The settings and the steps of a script."""
    if not isinstance(text, str):
        raise BadScript(0)
    lines = text.split("\n")
    settings = settings_of(lines)
    return (settings, steps_of(settings, lines))


class Bench:
    """A world that goes forth and back, with its settings."""

    def __init__(self, settings):
        # The world before all steps, and after each of them.
        self._worlds = [world_new(settings)]
        self._settings = settings
        self._steps = []
        self._undone = []

    def do(self, step):
        self._worlds.append(self._after(step))
        self._steps.append(step)
        self._undone = []

    def _after(self, step):
        """The world after one step more."""
        scene = Scene(self._worlds[-1])
        if not play(scene, step):
            raise BadStep(step)
        return scene.value()

    def undo(self):
        """Take back the last step, and return whether there was one."""
        if self._steps == []:
            return False
        self._worlds.pop()
        self._undone.append(self._steps.pop())
        return True

    def redo(self):
        """Do the step again that was undone last, and return whether there was one."""
        if self._undone == []:
            return False
        step = self._undone.pop()
        self._worlds.append(self._after(step))
        self._steps.append(step)
        return True

    def world(self):
        return self._worlds[-1]

    def steps(self):
        return tuple(self._steps)

    def undone(self):
        """The steps that were undone, in the order in which they were."""
        return tuple(self._undone)

    def text(self):
        return "\n".join(script_lines(self._settings, self._steps))


def opened(text):
    """A bench with the settings and the steps of a script."""
    settings, steps = read_script(text)
    bench = Bench(settings)
    for step in steps:
        bench.do(step)
    return bench
