"""The proxy once more, as simply as the document says it: what the program does is compared with this."""

from fractions import Fraction
from math import ceil, floor

from tests.models import fields, stage


def plain_turns(pool, many):
    """The turns by the sentences of [5.2], with fractions."""
    whole = sum(weight for _, weight in pool)
    given, out = [0] * len(pool), []
    for time in range(1, many + 1):
        dues = [(ceil((given[at] + 1) * Fraction(whole, weight)), at) for at, (_, weight) in enumerate(pool)
                if time > floor(given[at] * Fraction(whole, weight))]
        _, at = min(dues)
        given[at] += 1
        out.append(at)
    return tuple(out)


def plain_score(key, label):
    """The number of [5.5] in one sum: each character counts 251 times as much as the one behind it."""
    codes = [7] + [ord(char) for char in key + "/" + label]
    return sum(code * 251 ** at for at, code in enumerate(reversed(codes))) % 65521


class PlainMark:
    """A mark that is worked out from all looks so far."""

    def __init__(self, rule):
        self.rise, self.fall, self.first, self.most = rule
        self.is_up, self.run, self.wait, self.due = True, 0, self.first, self.first

    def value(self):
        return (self.is_up, self.run, self.wait, self.due)

    def look(self, is_good, now):
        if is_good == self.is_up:
            self.run = 0
        else:
            self.run += 1
            if self.is_up and self.run == self.fall or not self.is_up and self.run == self.rise:
                self.is_up, self.run = not self.is_up, 0
        if is_good or self.is_up:
            self.wait = self.first
        else:
            self.wait = sorted((2 * self.wait, self.most))[0]
        self.due = now + self.wait


class PlainView:
    """What was received on one link."""

    def __init__(self, house):
        self.house, self.boot, self.asked, self.answered, self.away, self.upto = house, None, [], set(), None, None
        self.rest, self.is_open = "", True

    def value(self):
        state = "open" if self.is_open else "broken"
        return (self.house, self.boot, tuple(self.asked), tuple(sorted(self.answered)), self.away, self.upto, state)

    def ends(self):
        return [end for end in (self.away, self.upto) if end is not None]

    def bounds(self):
        return max([0, *self.answered, *self.ends()]), min([len(self.asked), *self.ends()])

    def fate(self, number):
        low, high = self.bounds()
        return "begun" if number <= low else "not begun" if number > high else "open"

    def may_answer(self, number):
        return number not in self.answered and number <= min([len(self.asked), *self.ends()])

    def may_end(self, number):
        """Whether away or upto can have this number."""
        return max([0, *self.answered]) <= number <= len(self.asked) and self.ends() in ([], [number])


class PlainRequest:

    def __init__(self, client, number, once, key, body, born, tries):
        self.client, self.number, self.once, self.key, self.body = client, number, once, key, body
        self.born, self.tries, self.place = born, tries, None
        # For each link that it has left: the fate of its number there, at that moment.
        self.fates = []

    def value(self):
        return (self.client, self.number, self.once, self.key, self.body, self.born, self.tries, self.place)


class PlainProxy:
    """A proxy that changes. Each event returns its outputs; what [8.1] and [8.2] ask for is written into the diary."""

    def __init__(self, settings):
        self.settings, self.clock, self.label, self.leaving = settings, 0, 1, False
        self.pool, self.way, self.rule, self.tries, self.patience, self.room, self.window = settings
        self.names = [name for name, _ in self.pool]
        self.marks = {name: PlainMark(self.rule) for name in self.names}
        self.link = {name: None for name in self.names}
        self.looking = {name: False for name in self.names}
        self.draining = {name: False for name in self.names}
        self.turn, self.requests, self.views, self.outputs, self.diary, self.texts = ((), ()), [], {}, [], [], []

    @classmethod
    def of(cls, proxy):
        """The same proxy as this tuple, reachable or not."""
        settings, clock, label, houses, turn, requests, views, leaving = proxy
        model = cls(settings)
        model.clock, model.label, model.turn, model.leaving = clock, label, turn, leaving
        for name, (mark, link, looking, draining) in zip(model.names, houses):
            plain = model.marks[name]
            plain.is_up, plain.run, plain.wait, plain.due = mark
            model.link[name], model.looking[name], model.draining[name] = link, looking, draining
        for client, number, once, key, body, born, tries, place in requests:
            model.requests.append(PlainRequest(client, number, once, key, body, born, tries))
            model.requests[-1].place = place
        for label, rest, (house, boot, asked, answered, away, upto, state) in views:
            model.views[label] = view = PlainView(house)
            view.boot, view.asked, view.answered, view.away, view.upto = boot, list(asked), set(answered), away, upto
            view.rest, view.is_open = rest, state == "open"
        return model

    def value(self):
        houses = tuple((self.marks[name].value(), self.link[name], self.looking[name], self.draining[name]) for name in self.names)
        views = tuple((label, view.rest, view.value()) for label, view in sorted(self.views.items()))
        requests = tuple(request.value() for request in self.requests)
        return (self.settings, self.clock, self.label, houses, self.turn, requests, views, self.leaving)

    def event(self, word, *items):
        self.outputs, self.diary, self.texts = [], [], []
        getattr(self, "on_" + word)(*items)
        self.settle()
        return tuple(self.outputs)

    def house_of(self, label):
        return [name for name in self.names if self.link[name] == label][0]

    def on_link(self, label):
        return [request for request in self.requests if request.place and request.place[0] == label]

    def old_views(self, name):
        return [label for label, view in sorted(self.views.items()) if view.house == name and not view.is_open]

    def waits(self, name):
        return any(self.on_link(label) for label in self.old_views(name))

    def fate(self, request):
        return "not begun" if request.place is None else self.views[request.place[0]].fate(request.place[1])

    def leave_place(self, request):
        if request.place is not None:
            request.fates.append(self.fate(request))
        request.place = None

    def answer(self, request, *answer, reason=""):
        fate, view = self.fate(request), request.place and self.views[request.place[0]].value()
        number = request.place and request.place[1]
        self.leave_place(request)
        self.diary.append(("answer", request, answer, reason, fate, view, number))
        self.outputs.append(("answer", request.client, request.number, answer))
        self.requests = [other for other in self.requests if other is not request]

    def by_fate(self, request):
        fate = self.fate(request)
        self.answer(request, {"open": "unknown"}.get(fate, fate), reason="by fate")

    def seen(self, name, is_good):
        self.marks[name].look(is_good, self.clock)
        self.looking[name] = False

    def lose(self, name):
        label = self.link[name]
        view = self.views[label]
        view.is_open, view.rest, self.link[name] = False, "", None
        self.seen(name, False)
        for request in self.on_link(label):
            fate = self.fate(request)
            if fate == "not begun":
                self.leave_place(request)
            elif not request.once:
                if request.tries == 0:
                    self.answer(request, "none")
                else:
                    self.leave_place(request)
                    request.tries -= 1
            elif fate == "begun":
                self.answer(request, "begun")

    def drop(self, name):
        self.outputs.append(("break", self.link[name]))
        self.lose(name)

    def on_request(self, client, number, once, key, body):
        if self.leaving or len(self.requests) >= self.room:
            self.outputs.append(("answer", client, number, ("busy",)))
        else:
            self.requests.append(PlainRequest(client, number, once, key, body, self.clock, self.tries))

    def on_tick(self):
        self.clock += 1
        for request in self.requests:
            if self.clock >= request.born + self.patience:
                if request.once:
                    self.by_fate(request)
                else:
                    self.answer(request, "none")
        for name in self.names:
            if self.link[name] is not None and self.clock >= self.marks[name].due:
                if self.looking[name]:
                    self.drop(name)
                else:
                    self.outputs.append(("write", self.link[name], ("look",)))
                    self.looking[name] = True
                    self.marks[name].due = self.clock + self.marks[name].wait

    def on_refused(self, label):
        name = self.house_of(label)
        del self.views[label]
        self.link[name] = None
        self.seen(name, False)

    def on_lost(self, label):
        self.lose(self.house_of(label))

    def on_gone(self, client):
        self.requests = [request for request in self.requests if request.client != client]

    def on_draining(self, name, is_draining):
        self.draining[name] = is_draining

    def on_stop(self):
        self.leaving = True

    def on_restart(self):
        for name in self.names:
            if self.link[name] is not None:
                self.drop(name)

    def on_received(self, label, piece):
        name, view = self.house_of(label), self.views[label]
        for char in piece:
            view.rest += char
            now = stage(view.rest)
            if now == "part":
                continue
            text = view.rest.partition(":")[2][:-1]
            view.rest = ""
            if now == "whole":
                self.texts.append(text)
            if now == "wrong" or not self.is_right(name, label, fields(text)):
                self.drop(name)
                return

    def is_right(self, name, label, items):
        """Take in a message, and return whether it was one that could come now."""
        view = self.views[label]
        if items is None or (view.boot is None) != (items[0] == "hello"):
            return False
        word, numbers = items[0], [int(item) for item in items[1:2]]
        if word == "hello":
            view.boot = numbers[0]
            self.seen(name, True)
            self.ask_about_old(name, label, view.boot)
        elif word == "answer":
            if not view.may_answer(numbers[0]):
                return False
            view.answered.add(numbers[0])
            self.seen(name, True)
            for request in self.on_link(label):
                if request.place == (label, numbers[0]):
                    self.answer(request, "done", items[2])
        elif word == "away":
            if view.away is not None or not view.may_end(numbers[0]):
                return False
            view.away = numbers[0]
            for request in self.on_link(label):
                if self.fate(request) == "not begun":
                    self.leave_place(request)
        elif word == "well":
            self.seen(name, True)
        elif word in ("upto", "forgot"):
            return self.is_right_about_old(name, word, numbers[0], *[int(item) for item in items[2:]])
        else:
            return False
        return True

    def ask_about_old(self, name, label, boot):
        for old in self.old_views(name):
            if self.views[old].boot == boot:
                self.outputs.append(("write", label, ("past", old, boot)))
            else:
                for request in self.on_link(old):
                    self.by_fate(request)

    def is_right_about_old(self, name, word, old, number=None):
        if old not in self.old_views(name):
            return True
        view = self.views[old]
        if word == "upto":
            if view.upto is not None or view.boot is None or not view.may_end(number):
                return False
            view.upto = number
        for request in self.on_link(old):
            if word == "forgot":
                self.by_fate(request)
            elif self.fate(request) == "begun":
                self.answer(request, "begun")
            else:
                self.leave_place(request)
        return True

    def settle(self):
        for label, view in list(self.views.items()):
            if not view.is_open and not self.on_link(label):
                del self.views[label]
        for name in self.names:
            label = self.link[name]
            if label is None or self.views[label].boot is None or self.on_link(label) or self.waits(name):
                continue
            if self.draining[name] or self.views[label].away is not None or len(self.views[label].asked) >= 40:
                self.outputs.append(("break", label))
                del self.views[label]
                self.link[name], self.looking[name] = None, False
        for name in self.names:
            if self.link[name] is None and self.clock >= self.marks[name].due and (not self.draining[name] or self.waits(name)):
                self.outputs.append(("open", self.label, name))
                self.link[name], self.looking[name], self.views[self.label] = self.label, True, PlainView(name)
                self.marks[name].due = self.clock + self.marks[name].wait
                self.label += 1
        while any(request.place is None for request in self.requests):
            lot = tuple(at for at, name in enumerate(self.names) if self.can_take(name))
            if not lot:
                break
            self.place([request for request in self.requests if request.place is None][0], lot)

    def can_take(self, name):
        label = self.link[name]
        if label is None or self.draining[name] or not self.marks[name].is_up:
            return False
        view = self.views[label]
        return view.boot is not None and view.away is None and len(view.asked) < 40 and len(self.on_link(label)) < self.window

    def place(self, request, lot):
        if self.way == "turns":
            counts = list(self.turn[1]) if self.turn[0] == lot else [0] * len(lot)
            pick = plain_turns(tuple(self.pool[at] for at in lot), sum(counts) + 1)[-1]
            counts[pick] += 1
            self.turn, at = (lot, tuple(counts)), lot[pick]
        elif self.way == "busy":
            _, at = min((Fraction(len(self.on_link(self.link[self.names[at]])) + 1, self.pool[at][1]), at) for at in lot)
        else:
            _, at = min((-plain_score(request.key, self.names[at]), at) for at in lot)
        label = self.link[self.names[at]]
        view = self.views[label]
        view.asked.append(request.body)
        request.place = (label, len(view.asked))
        self.diary.append(("place", request))
        self.outputs.append(("write", label, ("ask", len(view.asked), request.body)))
