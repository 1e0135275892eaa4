"""Steps of worlds: which are possible, and what they do."""

from answergate.basics import NUMBER_MOST, is_between, is_integer, is_tagged, is_word
from answergate.errors import BadLabel, BadStep, NotDue
from answergate.events import can_happen
from answergate.houses import answered, began, fell, left, rose, row_of
from answergate.links import moved
from answergate.scenes import Scene, world_new

# The steps that are events of the proxy, as they stand.
EVENTS = ("request", "tick", "gone", "draining", "stop", "restart")


def is_up(scene, name):
    """Whether any value is the name of a house that is up."""
    return is_word(name) and name in scene.houses and scene.houses[name][2]


def is_open(scene, label):
    """Whether any value is the label of an open link."""
    return is_integer(label) and label in scene.links


def is_new(scene, client, number):
    """Whether a request is another one than all so far, and its client has not gone."""
    # The entry of a client that went names no request: its part is shorter.
    told = [entry[1:3] for entry in scene.past] + list(scene.placed.values())
    return (client, number) not in told and ("gone", client) not in scene.past


def proxy_event(scene, step):
    if not can_happen(scene.proxy, step):
        return False
    if step[0] == "request" and not is_new(scene, step[1], step[2]):
        return False
    scene.happen(*step)
    return True


def toward(scene, label, many):
    """Characters arrive at a house."""
    if not is_open(scene, label) or not is_between(many, 1, NUMBER_MOST):
        return False
    scene.links[label], piece = moved(scene.links[label], "toward", many)
    if piece != "":
        scene.house_takes(scene.links[label][1], label, piece)
    return True


def back(scene, label, many):
    """Characters arrive at the proxy."""
    if not is_open(scene, label) or not is_between(many, 1, NUMBER_MOST):
        return False
    scene.links[label], piece = moved(scene.links[label], "back", many)
    if piece != "":
        scene.happen("received", label, piece)
    return True


def next_due(scene, name, label):
    """The request that this house begins next on this row, as placed tells it, or None if there is none."""
    row = row_of(scene.houses[name], label)
    if row is None or not is_integer(label) or row[3] == len(row[2]):
        return None
    return scene.placed.get((label, row[3] + 1))


def begin(scene, name, label):
    if not is_up(scene, name):
        return False
    request = next_due(scene, name, label)
    if request is None:
        return False
    scene.houses[name] = began(scene.houses[name], label)
    scene.past.append(("begun", *request, name, scene.houses[name][1]))
    return True


def answer(scene, name, label, number):
    if not is_up(scene, name):
        return False
    try:
        scene.houses[name], message = answered(scene.houses[name], label, number)
    except (BadLabel, NotDue):
        return False
    scene.house_writes(name, label, (message,))
    return True


def leave(scene, name):
    if not is_up(scene, name):
        return False
    scene.houses[name], ends = left(scene.houses[name])
    for label, message in ends:
        scene.house_writes(name, label, (message,))
    return True


def fall(scene, name):
    if not is_up(scene, name):
        return False
    scene.houses[name] = fell(scene.houses[name])
    labels = [label for label in sorted(scene.links) if scene.links[label][1] == name]
    for label in labels:
        scene.lose(label)
    return True


def rise(scene, name):
    if not is_word(name) or name not in scene.houses or is_up(scene, name):
        return False
    scene.houses[name] = rose(scene.houses[name])
    return True


def break_link(scene, label):
    if not is_open(scene, label):
        return False
    scene.lose(label)
    return True


# For each step that is no event of the proxy: how many items it has, and what it does.
COUNTS = {"toward": 2, "back": 2, "begin": 2, "answer": 3, "leave": 1, "fall": 1, "rise": 1, "break": 1}
DEEDS = {
    "toward": toward, "back": back, "begin": begin, "answer": answer, "leave": leave, "fall": fall, "rise": rise,
    "break": break_link,
}


def play(scene, thing):
    """Do a step, and return whether the thing, which may be any value, is one that is possible."""
    if not is_tagged(thing):
        return False
    word, *items = thing
    if word in EVENTS:
        return proxy_event(scene, thing)
    if COUNTS.get(word) != len(items):
        return False
    deed = DEEDS[word]
    return deed(scene, *items)


def played(settings, steps):
    """The scene after a tuple of steps from a new world."""
    scene = Scene(world_new(settings))
    if not isinstance(steps, tuple):
        raise BadStep(steps)
    for step in steps:
        if not play(scene, step):
            raise BadStep(step)
    return scene


def plain_steps(scene):
    """The possible steps but requests, drains and clients that go, and of moves those of one or all characters."""
    steps = [("tick",), ("stop",), ("restart",)]
    for label, (_, _, forth, home, _) in scene.links.items():
        steps.append(("break", label))
        steps.extend([("toward", label, many) for many in (1, len(forth)) if forth != ""])
        steps.extend([("back", label, many) for many in (1, len(home)) if home != ""])
    for name in scene.houses:
        steps.extend(house_steps(scene, name) if is_up(scene, name) else [("rise", name)])
    return tuple(sorted(set(steps)))


def house_steps(scene, name):
    """The possible steps of a house that is up."""
    steps = [("leave", name), ("fall", name)]
    for label, _, _, begun, done, state in scene.houses[name][4]:
        if next_due(scene, name, label) is not None:
            steps.append(("begin", name, label))
        if state != "closed":
            steps.extend([("answer", name, label, number) for number in range(1, begun + 1) if number not in done])
    return steps
