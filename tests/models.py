"""Houses and stories once more, as simply as the document says them: what the program does is compared with these."""

import re

LENGTHS = {str(length): length for length in range(201)}
PLAIN = {chr(code) for code in range(32, 127)}
TEXTS = {
    "ask": "ask ([1-9][0-9]*) ([ -~]{0,150})", "answer": "answer ([1-9][0-9]*) ([ -~]{0,150})",
    "past": "past (0|[1-9][0-9]*) (0|[1-9][0-9]*)", "upto": "upto (0|[1-9][0-9]*) (0|[1-9][0-9]*)",
    "look": "look", "well": "well", "hello": "hello (0|[1-9][0-9]*)", "forgot": "forgot (0|[1-9][0-9]*)",
    "away": "away (0|[1-9][0-9]*)",
}


def framed(*texts):
    return "".join(str(len(text)) + ":" + text + "," for text in texts)


def stage(string):
    """What a string from the start of a frame on is: "part", "whole" or "wrong"."""
    digits, colon, rest = string.partition(":")
    if digits not in LENGTHS:
        return "part" if string == "" else "wrong"
    if not colon:
        return "part"
    text, behind = rest[:LENGTHS[digits]], rest[LENGTHS[digits]:]
    if not set(text) <= PLAIN or behind not in ("", ","):
        return "wrong"
    return "whole" if behind == "," else "part"


def fields(text):
    """The first item of the message with this text, and the other ones as strings; or None."""
    for word, pattern in TEXTS.items():
        found = re.fullmatch(pattern, text)
        numbers = found and [item for item in found.groups() if item.isdigit()]
        if found and word in ("ask", "answer"):
            numbers = [found.group(1)]
        if found and all(int(number) <= 10 ** 9 for number in numbers):
            return (word, *found.groups())
    return None


class PlainRow:

    def __init__(self, state="open"):
        self.rest, self.came, self.begun, self.done, self.state = "", [], 0, set(), state

    def end(self, state):
        self.came = self.came[:self.begun]
        self.state = state
        if state == "closed":
            self.rest = ""


class PlainHouse:
    """A house that changes. Each step returns what it writes, or None if it is not possible."""

    def __init__(self, name="ann"):
        self.name, self.boot, self.up, self.leaving, self.rows = name, 1, True, False, {}

    @classmethod
    def of(cls, house):
        """The same house as this tuple."""
        name, boot, up, leaving, rows = house
        model = cls(name)
        model.boot, model.up, model.leaving = boot, up, leaving
        for label, rest, came, begun, done, state in rows:
            model.rows[label] = row = PlainRow(state)
            row.rest, row.came, row.begun, row.done = rest, list(came), begun, set(done)
        return model

    def value(self):
        rows = tuple((label, row.rest, tuple(row.came), row.begun, tuple(sorted(row.done)), row.state)
                     for label, row in sorted(self.rows.items()))
        return (self.name, self.boot, self.up, self.leaving, rows)

    def meet(self, label):
        if label in self.rows:
            return None
        if not self.up or self.leaving:
            return ()
        self.rows[label] = PlainRow()
        return (("hello", self.boot),)

    def take(self, label, piece):
        """The messages, and whether there was no offence."""
        if label not in self.rows:
            return None
        row, written = self.rows[label], []
        for char in piece:
            if row.state == "closed":
                break
            row.rest += char
            now = stage(row.rest)
            if now == "part":
                continue
            answer = None if now == "wrong" else self.process(label, row.rest.partition(":")[2][:-1])
            row.rest = ""
            if answer is None:
                row.end("closed")
                return (tuple(written), False)
            written.extend(answer)
        return (tuple(written), True)

    def process(self, label, text):
        """What the house writes because of a text, or None if it is an offence."""
        row, items = self.rows[label], fields(text)
        if items == ("look",):
            return [("well",)]
        if items and items[0] == "past" and int(items[1]) != label:
            other, boot = int(items[1]), int(items[2])
            if boot != self.boot:
                return [("forgot", other)]
            self.rows.setdefault(other, PlainRow()).end("closed")
            return [("upto", other, self.rows[other].begun)]
        if items and items[0] == "ask" and row.state == "away":
            return []
        if items and items[0] == "ask" and int(items[1]) == len(row.came) + 1:
            row.came.append(items[2])
            return []
        return None

    def begin(self, label):
        row = self.rows.get(label)
        if row is None or row.begun == len(row.came):
            return None
        row.begun += 1
        return ()

    def answer(self, label, number):
        row = self.rows.get(label)
        if row is None or row.state == "closed" or number in row.done or not 1 <= number <= row.begun:
            return None
        row.done.add(number)
        return ("answer", number, "".join(reversed(row.came[number - 1])))

    def leave(self):
        """Pairs of a label and a message."""
        if not self.up:
            return None
        self.leaving = True
        ends = tuple((label, ("away", row.begun)) for label, row in sorted(self.rows.items()) if row.state == "open")
        for label, _ in ends:
            self.rows[label].end("away")
        return ends

    def fall(self):
        if not self.up:
            return None
        self.up, self.leaving, self.rows = False, False, {}
        return ()

    def rise(self):
        if self.up:
            return None
        self.up = True
        self.boot += 1
        return ()


def played(bodies, story):
    """What a story leads to: (begun, answers, away, upto), or None if one of its steps is not possible."""
    ends = [len(framed(*[f"ask {at + 1} {body}" for at, body in enumerate(bodies[:many + 1])])) for many in range(len(bodies))]
    arrived, came, begun, answers, away, upto, left, state = 0, 0, 0, set(), None, None, False, "open"
    for word, *numbers in story:
        if word == "take":
            arrived += numbers[0]
            if arrived > ([0] + ends)[-1]:
                return None
            if state == "open":
                came = sum(end <= arrived for end in ends)
        elif word == "begin":
            if state != "open" or begun == came:
                return None
            begun += 1
        elif word == "answer":
            if state == "closed" or numbers[0] > begun or numbers[0] in answers:
                return None
            answers.add(numbers[0])
        elif word == "leave":
            if left:
                return None
            left = True
            if state == "open":
                state, away = "away", begun
        else:
            state, upto = "closed", begun
    return (begun, tuple(sorted(answers)), away, upto)
