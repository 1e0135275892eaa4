"""Twins: two courses of events that look alike to the proxy, in one of which a request is begun."""

from answergate.frames import frame
from answergate.houses import row_of
from answergate.knowledge import bounds
from answergate.scenes import Scene, world_new
from answergate.steps import play


def is_unknown(entry):
    return entry[0] == "answered" and entry[3] == ("unknown",)


class Reel:
    """A row of steps, while it is played and written down."""

    def __init__(self, settings):
        self.scene = Scene(world_new(settings))
        # The steps with just those characters for the proxy that make up its messages, or None where there are none.
        self.steps = []
        # The labels of the open links after each step.
        self.links = []
        # The proxy before the last step, and what that step put into the past.
        self.before = self.scene.proxy
        self.news = []

    def play(self, step):
        """Do a step, and return whether it is possible."""
        scene = self.scene
        self.before = scene.proxy
        told, heard = len(scene.past), len(scene.hearing)
        if not play(scene, step):
            return False
        self.news = scene.past[told:]
        self.steps.append(plain_step(step, scene.hearing[heard:]))
        self.links.append(sorted(scene.links))
        return True

    def met_at(self, label):
        """The position of the step with which a link was opened."""
        return [label in labels for labels in self.links].index(True)

    def lost_at(self, label):
        """The position of the step with which a link broke, or of the last step if it has not broken."""
        met = self.met_at(label)
        opens = [label in labels for labels in self.links[met:]]
        return met + opens.index(False) if False in opens else len(self.steps) - 1


def plain_step(step, hearing):
    """The step without characters of messages that it does not complete, or None if it completes none."""
    if step[0] != "back":
        return step
    texts = [text for entry in hearing if entry[0] == "messages" for text in entry[2]]
    many = sum([len(frame(text)) for text in texts])
    return ("back", step[1], many) if many > 0 else None


def reel_of(settings, steps):
    """The reel of a tuple of steps, or None if one of them is not possible."""
    reel = Reel(settings)
    for step in steps:
        if not reel.play(step):
            return None
    return reel


class Doubt:
    """Where a request waits that is answered by unknown, and how much of its link the proxy knows."""

    def __init__(self, reel, client, number):
        places = [request[7] for request in reel.before[5] if request[:2] == (client, number)]
        self.label, self.number = places[0]
        views = [view for label, _, view in reel.before[6] if label == self.label]
        self.name = views[0][0]
        self.low, _ = bounds(views[0])


def twins_of(settings, reel, client, number):
    """Twins for a request that the last step of a reel answers by unknown."""
    doubt = Doubt(reel, client, number)
    return (Rush(settings, reel, doubt).run(), idle_steps(reel, doubt))


def idle_steps(reel, doubt):
    """The steps, but of the link nothing is begun or answered of which the proxy has not heard."""
    steps = []
    many = 0
    for step in reel.steps:
        if step == ("begin", doubt.name, doubt.label):
            many += 1
            if many > doubt.low:
                continue
        if step is not None and not is_late_answer(step, doubt):
            steps.append(step)
    return tuple(steps)


def is_late_answer(step, doubt):
    return step[:3] == ("answer", doubt.name, doubt.label) and step[3] > doubt.low


class Rush:
    """The steps once more, but the request is begun immediately before its link breaks, or before the last step."""

    def __init__(self, settings, reel, doubt):
        self.scene = Scene(world_new(settings))
        self.old = reel.steps
        self.name, self.label, self.number = doubt.name, doubt.label, doubt.number
        self.met, self.lost = reel.met_at(doubt.label), reel.lost_at(doubt.label)
        self.steps = []

    def run(self):
        for at, step in enumerate(self.old):
            if at == self.lost:
                self.hurry()
            if step is not None and not self.is_left_out(at, step):
                self.do(step)
        return tuple(self.steps)

    def do(self, step):
        """Do a step if it is still possible."""
        if play(self.scene, step):
            self.steps.append(step)

    def begun(self):
        """The number of requests that are begun on the link."""
        return row_of(self.scene.houses[self.name], self.label)[3]

    def hurry(self):
        """Do at once what the house does later on older links, and begin on the link all requests up to this one."""
        later = [step for step in self.old[self.lost:] if step is not None and self.is_older(step)]
        for step in later:
            self.do(step)
        # These characters bring the requests, and questions about older links, on which nothing is begun after them.
        flight = self.scene.links[self.label][2]
        self.do(("toward", self.label, len(flight)))
        for _ in range(self.number - self.begun()):
            self.do(("begin", self.name, self.label))
        if ("leave", self.name) in self.old[self.met:self.lost]:
            self.do(("leave", self.name))

    def is_older(self, step):
        """Whether a step begins a request on an older link of the house."""
        return step[:2] == ("begin", self.name) and step[2] < self.label

    def is_left_out(self, at, step):
        """Whether a step was done already, or comes too early."""
        if step == ("leave", self.name):
            return self.met < at < self.lost
        if at < self.lost:
            return False
        if step == ("begin", self.name, self.label):
            return self.old[:at + 1].count(step) <= self.begun()
        return self.is_older(step)
