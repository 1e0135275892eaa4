"""Scripts: the lines of settings and steps, and how they are read."""

from answergate.basics import NUMBER_MOST, is_decimal
from answergate.errors import BadScript
from answergate.proxies import is_settings
from answergate.scenes import Scene, world_new
from answergate.steps import play

# What follows the first item of a step.
FORMS = {
    "request": ("word", "number", "once", "word", "body"),
    "tick": (),
    "gone": ("word",),
    "draining": ("word", "switch"),
    "stop": (),
    "restart": (),
    "toward": ("number", "number"),
    "back": ("number", "number"),
    "begin": ("word", "number"),
    "answer": ("word", "number", "number"),
    "leave": ("word",),
    "fall": ("word",),
    "rise": ("word",),
    "break": ("number",),
}
BOOLS = {"once": ("again", "once"), "switch": ("off", "on")}


def script_lines(settings, steps):
    """The lines of settings and of steps that are possible."""
    pool, way, rule, *more = settings
    numbers = [str(number) for number in (*rule, *more)]
    first = " ".join(["settings", way, *numbers])
    houses = [f"house {label} {weight}" for label, weight in pool]
    return [first] + houses + [step_line(step) for step in steps]


def step_line(step):
    word, *items = step
    fields = [item_field(kind, item) for kind, item in zip(FORMS[word], items)]
    return " ".join([word, *fields])


def item_field(kind, item):
    if kind in BOOLS:
        return BOOLS[kind][item]
    return str(item)


def read_item(kind, field):
    """The item of this kind that is written so, or None if there is none."""
    if kind in BOOLS:
        return field == BOOLS[kind][1] if field in BOOLS[kind] else None
    if kind == "number":
        return read_number(field)
    return field


def read_number(field):
    return int(field) if is_decimal(field, NUMBER_MOST) else None


def read_step(line):
    """The step with this line, or what is surely no possible step."""
    word, _, _ = line.partition(" ")
    kinds = FORMS.get(word, ())
    # The last item may be a body with blanks. If items are missing, what is read is no step.
    fields = line.split(" ", len(kinds))
    items = [read_item(kind, field) for kind, field in zip(kinds, fields[1:])]
    return (fields[0], *items)


def read_settings(line, pool):
    """The settings with this first line and this pool; they are none if one of both is wrong."""
    word, *fields = line.split(" ")
    if word != "settings" or len(fields) != 9:
        return None
    numbers = [read_number(field) for field in fields[1:]]
    rule, more = tuple(numbers[:4]), numbers[4:]
    return (pool, fields[0], rule, *more)


def read_share(line):
    """The pair of the label and the weight with this line, or what is surely none."""
    word, *fields = line.split(" ")
    if word != "house" or len(fields) != 2:
        return None
    return (fields[0], read_number(fields[1]))


def settings_of(lines):
    """The settings at the beginning of the lines of a script."""
    # With one house, the settings are right if the line is.
    if not is_settings(read_settings(lines[0], (("a", 1),))):
        raise BadScript(1)
    pool = ()
    for at, line in enumerate(lines[1:]):
        if not line.startswith("house "):
            break
        pool = (*pool, read_share(line))
        if not is_settings(read_settings(lines[0], pool)):
            raise BadScript(at + 2)
    if pool == ():
        raise BadScript(2)
    return read_settings(lines[0], pool)


def steps_of(settings, lines):
    """The steps with the lines of a script behind its settings."""
    before = 1 + len(settings[0])
    scene = Scene(world_new(settings))
    steps = []
    for at, line in enumerate(lines[before:]):
        step = read_step(line)
        if not play(scene, step):
            raise BadScript(before + at + 1)
        steps.append(step)
    return tuple(steps)
