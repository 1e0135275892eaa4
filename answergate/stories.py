"""Stories: what a house does on one link, step by step, while the proxy writes its requests."""

from answergate.basics import is_integer
from answergate.errors import NotDue, NothingDue
from answergate.frames import frame
from answergate.houses import answered, began, house_new, left, met, row_of, took
from answergate.messages import message_text

# The link of the story, and another one of the same house, on which a past for it can arrive.
LABEL = 1
OTHER = 2


def is_story(thing):
    return isinstance(thing, tuple) and all([is_story_step(step) for step in thing])


def is_story_step(thing):
    if not isinstance(thing, tuple) or len(thing) not in (1, 2):
        return False
    if len(thing) == 1:
        return thing[0] in ("begin", "leave", "close")
    word, number = thing
    return word in ("take", "answer") and is_integer(number) and number >= 1


def asks_frames(bodies):
    """The characters that the proxy writes to a link for requests with these bodies."""
    asks = [("ask", at + 1, body) for at, body in enumerate(bodies)]
    return "".join([frame(message_text(ask)) for ask in asks])


def plain_story(bodies, many, answers):
    """A story that begins the first many of the requests with these bodies, and answers these numbers of them."""
    flight = asks_frames(bodies[:many])
    takes = [("take", len(flight))] if many > 0 else []
    return tuple(takes + [("begin",)] * many + [("answer", number) for number in answers])


class Course:
    """A story while it is played: the house, and what the proxy received of it."""

    def __init__(self, bodies):
        house, _ = met(house_new("house"), LABEL)
        self.house, _ = met(house, OTHER)
        self.flight = asks_frames(bodies)
        self.answers = ()
        self.away = None
        self.upto = None

    def play(self, step):
        """Do a step, and return whether it was possible."""
        word = step[0]
        if word == "take":
            return self.take(step[1])
        if word == "begin":
            return self.begin()
        if word == "answer":
            return self.answer(step[1])
        if word == "leave":
            return self.leave()
        return self.close()

    def take(self, many):
        if many > len(self.flight):
            return False
        self.house, _, _ = took(self.house, LABEL, self.flight[:many])
        self.flight = self.flight[many:]
        return True

    def begin(self):
        try:
            self.house = began(self.house, LABEL)
        except NothingDue:
            return False
        return True

    def answer(self, number):
        try:
            self.house, _ = answered(self.house, LABEL, number)
        except NotDue:
            return False
        self.answers = tuple(sorted([*self.answers, number]))
        return True

    def leave(self):
        leaving = self.house[3]
        if leaving:
            return False
        self.house, ends = left(self.house)
        for label, message in ends:
            if label == LABEL:
                self.away = message[1]
        return True

    def close(self):
        past = ("past", LABEL, self.house[1])
        self.house, messages, _ = took(self.house, OTHER, frame(message_text(past)))
        self.upto = messages[0][2]
        return True

    def begun(self):
        """The number of requests that were begun."""
        return row_of(self.house, LABEL)[3]


def course_of(bodies, story):
    """The course after a story, or None if one of its steps is not possible."""
    course = Course(bodies)
    for step in story:
        if not course.play(step):
            return None
    return course
