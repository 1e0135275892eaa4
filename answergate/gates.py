"""The proxy while an event happens to it: its links, its requests, and the outputs that arise."""

from answergate.errors import BadNews, BadText
from answergate.frames import read
from answergate.knowledge import asked, broken, fate, heard, told_upto, view_new
from answergate.marks import is_due, looked
from answergate.messages import read_message

# What an own message of a house is, beside those that tell of an earlier link.
NEWS = ("hello", "answer", "away", "well")


def boot_of(view):
    return view[1]


def bodies_of(view):
    return view[2]


def answers_of(view):
    return view[3]


def away_of(view):
    return view[4]


def is_broken(view):
    return view[6] == "broken"


class Post:
    """What the proxy holds of one house."""

    def __init__(self, name, house):
        self.name = name
        self.mark, self.link, self.looking, self.draining = house

    def value(self):
        return (self.mark, self.link, self.looking, self.draining)


class Errand:
    """A request that is not answered."""

    def __init__(self, request):
        self.client, self.number, self.once, self.key, self.body, self.born, self.tries, self.place = request

    def value(self):
        return (self.client, self.number, self.once, self.key, self.body, self.born, self.tries, self.place)


class Gate:
    """A proxy that changes, made from its tuple."""

    def __init__(self, proxy):
        settings, self.clock, self.label, houses, self.turn, requests, views, self.leaving = proxy
        self.settings = settings
        self.pool, self.way, self.rule, self.tries, self.patience, self.room, self.window = settings
        self.posts = [Post(pair[0], house) for pair, house in zip(self.pool, houses)]
        self.errands = [Errand(request) for request in requests]
        self.rests = {label: rest for label, rest, _ in views}
        self.views = {label: view for label, _, view in views}
        self.outputs = []
        # The complete texts that were received and processed.
        self.texts = []

    def value(self):
        """The tuple of the proxy."""
        houses = tuple([post.value() for post in self.posts])
        requests = tuple([errand.value() for errand in self.errands])
        views = tuple([(label, self.rests[label], self.views[label]) for label in sorted(self.views)])
        return (self.settings, self.clock, self.label, houses, self.turn, requests, views, self.leaving)

    def tell(self, *output):
        self.outputs.append(tuple(output))

    def post_with(self, label):
        """The post of the house with this link."""
        return self.posts[[post.link for post in self.posts].index(label)]

    def post_named(self, name):
        return self.posts[[post.name for post in self.posts].index(name)]

    def placed(self, label):
        """The requests that are placed on this link, in order."""
        return [errand for errand in self.errands if errand.place is not None and errand.place[0] == label]

    def broken_labels(self, name):
        """The labels of the broken views of a house, ascending."""
        return [label for label in sorted(self.views) if self.views[label][0] == name and is_broken(self.views[label])]

    def is_asked_about(self, name):
        """Whether a request is placed on a broken view of the house."""
        return any([self.placed(label) for label in self.broken_labels(name)])

    def errand_fate(self, errand):
        """What is known of a request by its place."""
        if errand.place is None:
            return "not begun"
        label, number = errand.place
        return fate(self.views[label], number)

    def answer(self, errand, answer):
        self.tell("answer", errand.client, errand.number, answer)
        self.errands = [other for other in self.errands if other != errand]

    def give_up(self, errand):
        """Answer a request by its fate."""
        word = self.errand_fate(errand)
        self.answer(errand, ("unknown",) if word == "open" else (word,))

    def look(self, post, is_good):
        post.mark = looked(self.rule, post.mark, is_good, self.clock)
        post.looking = False

    def is_look_due(self, post):
        return is_due(self.rule, post.mark, self.clock)

    def start_look(self, post):
        is_up, run, wait, _ = post.mark
        post.mark = (is_up, run, wait, self.clock + wait)
        post.looking = True

    def open_link(self, post):
        label = self.label
        self.tell("open", label, post.name)
        self.label += 1
        post.link = label
        self.start_look(post)
        self.rests[label] = ""
        self.views[label] = view_new(post.name)

    def forget(self, label):
        """Remove a view."""
        del self.rests[label]
        del self.views[label]

    def write(self, label, *message):
        self.tell("write", label, tuple(message))

    def place_on(self, errand, post):
        """Write a request to the link of a house."""
        label = post.link
        self.views[label] = asked(self.views[label], errand.body)
        number = len(bodies_of(self.views[label]))
        errand.place = (label, number)
        self.write(label, "ask", number, errand.body)

    def lose(self, post):
        """The link of a house is lost."""
        label = post.link
        self.views[label] = broken(self.views[label])
        self.rests[label] = ""
        post.link = None
        self.look(post, False)
        for errand in self.placed(label):
            self.part(errand)

    def part(self, errand):
        """What becomes of a request whose link was lost."""
        word = self.errand_fate(errand)
        if word == "not begun":
            errand.place = None
        elif not errand.once and errand.tries > 0:
            errand.place = None
            errand.tries -= 1
        elif not errand.once:
            self.answer(errand, ("none",))
        elif word == "begun":
            self.answer(errand, ("begun",))

    def drop(self, post):
        self.tell("break", post.link)
        self.lose(post)

    def close(self, post):
        """Break a link on which nothing is left to wait for."""
        self.tell("break", post.link)
        self.forget(post.link)
        post.link = None
        post.looking = False

    def receive(self, post, piece):
        """Read characters of the link of a house, and process their texts as long as it is not dropped."""
        kind, texts, end = read(self.rests[post.link], piece)
        for text in texts:
            self.texts.append(text)
            if not self.process(post, text):
                self.drop(post)
                return
        if kind == "wrong":
            self.drop(post)
        else:
            self.rests[post.link] = end

    def process(self, post, text):
        """Process a text, and return whether it is one that the house may send now."""
        try:
            message = read_message(text)
        except BadText:
            return False
        word = message[0]
        if word != "hello" and boot_of(self.views[post.link]) is None:
            return False
        if word in NEWS:
            return self.hear(post, message)
        if word == "upto":
            return self.hear_upto(post, message[1], message[2])
        if word == "forgot":
            self.hear_forgot(post, message[1])
            return True
        return False

    def hear(self, post, message):
        """Hear what a house tells of the link itself, and return whether that can be."""
        try:
            self.views[post.link] = heard(self.views[post.link], message)
        except BadNews:
            return False
        word = message[0]
        if word != "away":
            self.look(post, True)
        if word == "hello":
            self.ask_about(post, message[1])
        elif word == "answer":
            self.finish((post.link, message[1]), message[2])
        elif word == "away":
            self.take_back(post.link)
        return True

    def ask_about(self, post, boot):
        """Ask a house that said hello what it began on its broken links, or give up what it cannot know any more."""
        for label in self.broken_labels(post.name):
            if boot_of(self.views[label]) == boot:
                self.write(post.link, "past", label, boot)
            else:
                self.give_up_all(label)

    def give_up_all(self, label):
        for errand in self.placed(label):
            self.give_up(errand)

    def finish(self, place, body):
        """Pass on the answer of a house to the request with this place, if it still waits."""
        for errand in list(self.errands):
            if errand.place == place:
                self.answer(errand, ("done", body))

    def take_back(self, label):
        """Put the requests that are not begun on a link, and never will be, into the queue."""
        for errand in self.placed(label):
            if self.errand_fate(errand) == "not begun":
                errand.place = None

    def hear_upto(self, post, label, number):
        """Hear how many requests were begun on an earlier link, and return whether that can be."""
        if label not in self.broken_labels(post.name):
            return True
        try:
            self.views[label] = told_upto(self.views[label], number)
        except BadNews:
            return False
        for errand in self.placed(label):
            if self.errand_fate(errand) == "begun":
                self.answer(errand, ("begun",))
            else:
                errand.place = None
        return True

    def hear_forgot(self, post, label):
        if label in self.broken_labels(post.name):
            self.give_up_all(label)
