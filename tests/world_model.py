"""Worlds once more, as simply as the document says them, and rows of drawn steps for them."""

from tests.driving import some_settings
from tests.models import PlainHouse, framed
from tests.proxy_model import PlainProxy

WORDS = {"request": 5, "tick": 0, "gone": 1, "draining": 2, "stop": 0, "restart": 0, "toward": 2, "back": 2, "begin": 2, "answer": 3,
         "leave": 1, "fall": 1, "rise": 1, "break": 1}


def is_word(thing):
    return type(thing) is str and 0 < len(thing) < 11 and set(thing) <= set("abcdefghijklmnopqrstuvwxyz")


def is_number(thing, low=0):
    return type(thing) is int and low <= thing <= 10 ** 9


def is_body(thing):
    return type(thing) is str and len(thing) <= 150 and all(" " <= char <= "~" for char in thing)


def text_of(message):
    return " ".join(str(item) for item in message)


class PlainWorld:
    """A world that changes; listener is told each event of the proxy, the proxy and its outputs."""

    def __init__(self, settings, listener=None):
        self.proxy = PlainProxy(settings)
        self.houses = {name: PlainHouse(name) for name, _ in settings[0]}
        self.links, self.placed, self.past, self.hearing = {}, {}, [], []
        self.listener = listener or (lambda event, proxy, outputs: None)

    @classmethod
    def of(cls, world):
        """The same world as this tuple, whether steps lead to it or not."""
        proxy, links, houses, placed, past = world
        model = cls(proxy[0])
        model.proxy = PlainProxy.of(proxy)
        model.houses = {house[0]: PlainHouse.of(house) for house in houses}
        model.links = {label: [name, toward, back] for label, name, toward, back, _ in links}
        model.placed = {place: (client, number) for place, client, number in placed}
        model.past = list(past)
        return model

    def value(self):
        links = tuple((label, name, toward, back, "open") for label, (name, toward, back) in sorted(self.links.items()))
        houses = tuple(house.value() for house in self.houses.values())
        placed = tuple((place, *request) for place, request in sorted(self.placed.items()))
        return (self.proxy.value(), links, houses, placed, tuple(self.past))

    def happen(self, *event):
        fates = {(request.client, request.number): self.proxy.fate(request) for request in self.proxy.requests}
        outputs = self.proxy.event(*event)
        if event[0] != "received":
            self.hearing.append(event)
        elif self.proxy.texts:
            self.hearing.append(("messages", event[1], tuple(self.proxy.texts)))
        if event[0] == "gone":
            self.past.append(event)
        if event[0] == "request" and ("answer", *event[1:3], ("busy",)) not in outputs:
            self.past.append(("accepted", *event[1:4], event[5]))
        self.listener(event, self.proxy, outputs)
        for word, request in [entry[:2] for entry in self.proxy.diary]:
            if word == "place":
                self.placed[request.place] = (request.client, request.number)
        down = []
        for word, label, *more in outputs:
            if word == "open":
                written = self.houses[more[0]].meet(label)
                if written:
                    self.links[label] = [more[0], "", framed(text_of(written[0]))]
                else:
                    down.append(label)
            elif word == "write":
                self.links[label][1] += framed(text_of(more[0]))
            elif word == "break":
                del self.links[label]
            else:
                self.past.append(("answered", label, *more, fates.get((label, more[0]), "")))
        for label in down:
            self.happen("refused", label)

    def arrive(self, name, label, *messages):
        """What a house writes on a row."""
        if label in self.links and self.links[label][0] == name:
            self.links[label][2] += framed(*[text_of(message) for message in messages])

    def do(self, step):
        """Do a step, and return whether it was possible."""
        if type(step) is not tuple or not step or type(step[0]) is not str or WORDS.get(step[0]) != len(step) - 1:
            return False
        return getattr(self, "do_" + step[0])(*step[1:])

    def do_request(self, client, number, once, key, body):
        if not is_word(client) or not is_number(number) or type(once) is not bool or not is_word(key) or not is_body(body):
            return False
        requests = [entry[1:3] for entry in self.past if len(entry) > 2] + list(self.placed.values())
        requests += [(request.client, request.number) for request in self.proxy.requests]
        if (client, number) in requests or ("gone", client) in self.past:
            return False
        self.happen("request", client, number, once, key, body)
        return True

    def do_tick(self):
        self.happen("tick")
        return True

    def do_stop(self):
        self.happen("stop")
        return True

    def do_restart(self):
        self.happen("restart")
        return True

    def do_gone(self, client):
        if is_word(client):
            self.happen("gone", client)
        return is_word(client)

    def do_draining(self, name, is_draining):
        if not is_word(name) or name not in self.houses or type(is_draining) is not bool:
            return False
        self.happen("draining", name, is_draining)
        return True

    def do_toward(self, label, many):
        if type(label) is not int or label not in self.links or not is_number(many, 1):
            return False
        link = self.links[label]
        piece, link[1] = link[1][:many], link[1][many:]
        written, whole = self.houses[link[0]].take(label, piece)
        self.arrive(link[0], label, *written)
        return whole or self.do_break(label)

    def do_back(self, label, many):
        if type(label) is not int or label not in self.links or not is_number(many, 1):
            return False
        link = self.links[label]
        piece, link[2] = link[2][:many], link[2][many:]
        if piece:
            self.happen("received", label, piece)
        return True

    def house_up(self, name):
        return is_word(name) and name in self.houses and self.houses[name].up

    def do_begin(self, name, label):
        if not self.house_up(name) or type(label) is not int or label not in self.houses[name].rows:
            return False
        house = self.houses[name]
        request = self.placed.get((label, house.rows[label].begun + 1))
        if request is None or house.begin(label) is None:
            return False
        self.past.append(("begun", *request, name, house.boot))
        return True

    def do_answer(self, name, label, number):
        if not self.house_up(name) or type(label) is not int or type(number) is not int:
            return False
        message = self.houses[name].answer(label, number)
        if message is not None:
            self.arrive(name, label, message)
        return message is not None

    def do_leave(self, name):
        if not self.house_up(name):
            return False
        for label, message in self.houses[name].leave():
            self.arrive(name, label, message)
        return True

    def do_fall(self, name):
        if not self.house_up(name):
            return False
        self.houses[name].fall()
        for label in [label for label, link in sorted(self.links.items()) if link[0] == name]:
            self.do_break(label)
        return True

    def do_rise(self, name):
        return is_word(name) and name in self.houses and self.houses[name].rise() is not None

    def do_break(self, label):
        if type(label) is not int or label not in self.links:
            return False
        del self.links[label]
        self.happen("lost", label)
        return True

    def steps(self):
        """The steps that possible_steps names."""
        out = {("tick",), ("stop",), ("restart",)}
        for label, (_, toward, back) in self.links.items():
            out |= {("break", label)} | {("toward", label, many) for many in (1, len(toward)) if toward}
            out |= {("back", label, many) for many in (1, len(back)) if back}
        for name, house in self.houses.items():
            out |= {("leave", name), ("fall", name)} if house.up else {("rise", name)}
            for label, row in house.rows.items():
                if row.begun < len(row.came) and (label, row.begun + 1) in self.placed:
                    out.add(("begin", name, label))
                out |= {("answer", name, label, number) for number in range(1, row.begun + 1)
                        if number not in row.done and row.state != "closed"}
        return tuple(sorted(out))


PROFILES = (
    {},
    # Links break and come back, and houses begin what they have not answered.
    {"break": 3, "begin": 9, "answer": 1, "back": 9, "toward": 9, "tick": 3, "request": 2, "fall": 0.2, "leave": 0.2, "whole": 1},
    # Houses fall and rise.
    {"fall": 2, "rise": 9, "begin": 8, "back": 12, "toward": 9, "tick": 5, "request": 2, "break": 0.3, "whole": 0.9},
    # Houses leave, and are drained.
    {"leave": 2, "fall": 0.6, "draining": 2, "begin": 6, "back": 8, "toward": 9, "whole": 0.8},
    # Much goes well.
    {"answer": 9, "begin": 9, "back": 9, "toward": 9, "break": 0.2, "fall": 0, "leave": 0.1, "whole": 0.9, "request": 4},
    # Old links are asked about while they still begin.
    {"break": 2, "begin": 3, "answer": 0.5, "back": 5, "toward": 5, "tick": 2, "request": 1.5, "fall": 0.3, "leave": 0.5, "whole": 0.6},
)
PLAIN = {"tick": 4, "stop": 0.03, "restart": 0.15, "break": 0.8, "toward": 8, "back": 8, "begin": 5, "answer": 3, "leave": 0.3, "fall": 0.4,
         "rise": 4, "request": 3, "draining": 0.3, "gone": 0.06, "whole": 0.5}


class Stage:
    """Draws steps that are possible in a world."""

    def __init__(self, random, weights=()):
        self.random, self.next, self.weights = random, 0, {**PLAIN, **dict(weights)}

    def step(self, world):
        random, options = self.random, {}
        for step in world.steps():
            options.setdefault(step[0], []).append(step)
        for label, (_, toward, back) in world.links.items():
            for word, flight in (("toward", toward), ("back", back)):
                if random.random() >= self.weights["whole"]:
                    # Sometimes more than is in flight, and nothing at all.
                    options.setdefault(word, []).append((word, label, random.randint(1, len(flight) + 3)))
                elif flight:
                    options[word] = [(word, label, len(flight))]
        self.next += 1
        client = random.choice(("cleo", "dora", "emil", "fay"))
        if ("gone", client) not in world.past:
            body = "".join(random.choice("ab :,7") for _ in range(random.choice((0, 1, 3, 9))))
            number = random.choice((self.next, 10 ** 9 - self.next))
            options["request"] = [("request", client, number, random.random() < 0.75, random.choice(("k", "pear")), body)]
        options["gone"] = [("gone", random.choice(("cleo", "dora", "nobody")))]
        options["draining"] = [("draining", random.choice(list(world.houses)), random.random() < 0.5)]
        words = sorted(options)
        word = random.choices(words, [self.weights[word] for word in words])[0]
        return random.choice(options[word])


def world_settings(random, most=4):
    """Settings with which links are looked at not too often, so that much can happen on them."""
    pool, way, rule, tries, patience, room, window = some_settings(random, most)
    first = random.choice((1, 2, 4, 9))
    rule = random.choice((rule, (1, random.choice((1, 2, 9)), first, random.choice((first, 20)))))
    return (pool, way, rule, tries, random.choice((patience, 5, 12, 40)), random.choice((room, 12)), random.choice((window, 3)))
