"""Rows of drawn events for a proxy, and what the promises of parts 7 and 8 ask for at each of them."""

from answergate import knowledge, proxies
from tests.models import framed

CLIENTS = ("cleo", "dora", "emil")
WAYS = ("turns", "busy", "key")
FUNCTIONS = {
    "request": "requested", "tick": "ticked", "refused": "refused", "received": "received", "lost": "lost", "gone": "gone",
    "draining": "set_draining", "stop": "stopped", "restart": "restarted",
}


def done(proxy, event):
    """The pair of the proxy after an event and its outputs."""
    word, *items = event
    return getattr(proxies, FUNCTIONS[word])(proxy, *items)


def some_settings(random, most=4):
    names = random.sample(("ann", "bob", "cy", "dee"), random.randint(1, most))
    pool = tuple((name, random.choice((1, 1, 2, 3, 100))) for name in names)
    first = random.choice((1, 1, 2, 3))
    rule = (random.choice((1, 2)), random.choice((1, 2, 3)), first, random.choice((first, first + 1, 8, 99)))
    return (pool, random.choice(WAYS), rule, random.choice((0, 1, 2, 9)), random.choice((1, 3, 6, 20, 99)),
            random.choice((1, 3, 12, 99)), random.choice((1, 2, 5, 40)))


class Driver:
    """Draws events that can happen to a proxy, whose houses tell mostly, but not always, what they may tell."""

    def __init__(self, random, settings, weights=()):
        self.random, self.boots, self.streams, self.next = random, {name: 1 for name, _ in settings[0]}, {}, 0
        self.weights = {"request": 6, "tick": 5, "refused": 1, "received": 14, "lost": 1.5, "gone": 0.3, "draining": 0.7,
                        "stop": 0.1, "restart": 0.3, "odd": 0.04, **dict(weights)}

    def event(self, model):
        links = [label for label in model.link.values() if label is not None]
        opening = [label for label in links if model.views[label].boot is None]
        words = [word for word in FUNCTIONS if links or word not in ("received", "lost")]
        words = [word for word in words if opening or word != "refused"]
        word = self.random.choices(words, [self.weights[word] for word in words])[0]
        return (word, *getattr(self, "some_" + word)(model, opening if word == "refused" else links))

    def some_request(self, model, _):
        self.next += 1
        number = self.random.choice((self.next, self.next, 10 ** 9 - self.next))
        body = "".join(self.random.choice("ab :,7") for _ in range(self.random.choice((0, 1, 2, 5, 150))))
        key = self.random.choice(("k", "pear", "plum", "abcdefghij"))
        return (self.random.choice(CLIENTS), number, self.random.random() < 0.7, key, body)

    def some_tick(self, model, _):
        return ()

    some_stop = some_restart = some_tick

    def some_refused(self, model, opening):
        return (self.random.choice(opening),)

    def some_lost(self, model, links):
        return (self.random.choice(links),)

    def some_gone(self, model, _):
        return (self.random.choice((*CLIENTS, "nobody")),)

    def some_draining(self, model, _):
        return (self.random.choice(model.names), self.random.random() < 0.5)

    def some_received(self, model, links):
        label = self.random.choice(links)
        stream = self.streams.get(label, "")
        for _ in range(self.random.choice((0, 1, 1, 2, 3))):
            stream += self.some_text(model, label)
        cut = self.random.choice((len(stream), len(stream), self.random.randint(0, len(stream))))
        self.streams[label] = stream[cut:]
        return (label, stream[:cut])

    def some_text(self, model, label):
        """The frame of a message, or, rarely, something else."""
        random, view, name = self.random, model.views[label], model.house_of(label)
        if random.random() < self.weights["odd"]:
            return random.choice(("x", "01:", "4:look,", "4:well;", "4:wel,", "0:,", framed("ask 1 x"), framed("hello 7"),
                                  framed("answer 99 x"), framed("away 77"), framed("upto 1 99"), framed("past 1 1")))
        if view.boot is None and "hello" not in self.streams.get(label, ""):
            if random.random() < 0.2:
                self.boots[name] += 1
            return framed(f"hello {self.boots[name]}")
        old = [label for label, view in model.views.items() if not view.is_open]
        past = random.choice(old) if old and random.random() < 0.9 else random.randint(0, model.label)
        here = [request.place[1] for request in model.on_link(label)]
        low, high = view.bounds()
        word = random.choices(("answer", "away", "upto", "forgot", "well"), (6, 0.6, 4 * len(old) + 0.5, 2 * len(old) + 0.5, 2))[0]
        if word == "answer":
            number = random.choice(here) if here and random.random() < 0.95 else random.randint(1, len(view.asked) + 1)
            return framed(f"answer {number} {random.choice(('', 'x', 'done'))}")
        if word == "away":
            return framed(f"away {random.randint(low, high)}")
        if word == "upto":
            bounds = model.views[past].bounds() if past in model.views else (0, 3)
            return framed(f"upto {past} {random.randint(*bounds)}")
        return framed(f"forgot {past}") if word == "forgot" else framed("well")


class Ledger:
    """What was promised to each client so far."""

    def __init__(self, test, settings):
        self.test, self.patience, self.clock = test, settings[4], 0
        self.accepted, self.answers, self.went = {}, {}, {}

    def note(self, event, model, outputs):
        """Hold one event and its outputs against [7.8] and [8.1] to [8.3]."""
        test, word = self.test, event[0]
        if word == "tick":
            self.clock += 1
        if word == "gone":
            self.went.update({name: True for name in self.accepted if name[0] == event[1]})
        busy = word == "request" and outputs[:1] == (("answer", *event[1:3], ("busy",)),)
        if word == "request" and not busy:
            test.assertFalse(model.leaving)
            self.accepted[event[1:3]] = self.clock
        for output in outputs:
            if output[0] == "answer" and output[3] != ("busy",):
                name = output[1:3]
                test.assertIn(name, self.accepted)
                test.assertNotIn(name, self.answers)
                test.assertNotIn(name, self.went)
                self.answers[name] = output[3]
        for name, born in self.accepted.items():
            if name not in self.went and self.clock >= born + self.patience:
                test.assertIn(name, self.answers)
        self.note_places(model)
        self.note_answers(model)

    def note_places(self, model):
        test = self.test
        for word, request, *_ in model.diary:
            if word == "place" and request.once:
                test.assertEqual(set(request.fates) - {"not begun"}, set())
            if word == "place":
                label = request.place[0] if request.place else None
                if label is not None and model.views[label].is_open:
                    test.assertFalse(model.draining[model.views[label].house])

    def note_answers(self, model):
        test = self.test
        for word, request, *more in model.diary:
            if word != "answer":
                continue
            answer, reason, fate, view, number = more
            if not request.once:
                test.assertIn(answer[0], ("done", "none"))
                continue
            test.assertIn(answer[0], ("done", "begun", "not begun", "unknown"))
            test.assertEqual(answer == ("unknown",), reason == "by fate" and fate == "open")
            if answer == ("begun",):
                test.assertIn("begun", request.fates)
            if answer == ("not begun",):
                test.assertEqual(set(request.fates) - {"not begun"}, set())
            if answer == ("unknown",):
                one, other = knowledge.two_stories(view, number)
                test.assertLess(knowledge.story_begins(view, one), number)
                test.assertGreaterEqual(knowledge.story_begins(view, other), number)
