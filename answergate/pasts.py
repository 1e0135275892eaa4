"""Pasts: the forms of their entries, and the sentences that the entries keep."""

from answergate.basics import is_number, is_tagged, is_word
from answergate.messages import is_body

FATES = ("begun", "not begun", "open", "")

# What follows the first item of an answer, and of an entry.
ANSWERS = {"done": ("body",), "busy": (), "begun": (), "not begun": (), "unknown": (), "none": ()}
ENTRIES = {
    "accepted": ("word", "number", "bool", "body"),
    "begun": ("word", "number", "word", "boot"),
    "answered": ("word", "number", "answer", "fate"),
    "gone": ("word",),
}


def is_answer(thing):
    if not is_tagged(thing) or thing[0] not in ANSWERS:
        return False
    return are_parts(ANSWERS[thing[0]], thing[1:])


def is_entry(thing):
    if not is_tagged(thing) or thing[0] not in ENTRIES:
        return False
    return are_parts(ENTRIES[thing[0]], thing[1:])


def are_parts(kinds, parts):
    return len(kinds) == len(parts) and all([is_part(kind, part) for kind, part in zip(kinds, parts)])


def is_part(kind, thing):
    """Whether any value is a part of this kind in an entry or an answer."""
    if kind == "word":
        return is_word(thing)
    if kind == "body":
        return is_body(thing)
    if kind == "bool":
        return isinstance(thing, bool)
    if kind == "answer":
        return is_answer(thing)
    if kind == "fate":
        return thing in FATES
    return is_number(thing) and (kind == "number" or thing >= 1)


class Judge:
    """What a past has told up to some entry."""

    def __init__(self):
        # By client and number: whether the request must not be repeated and its body; that it was begun; its answer.
        self.accepted = {}
        self.begun = {}
        self.answers = {}
        # By client: that it has gone.
        self.gone = {}

    def fault(self, entry):
        """The word of the first sentence that the next entry breaks, or None; then the entry counts as told."""
        word = entry[0]
        if word == "gone":
            self.gone[entry[1]] = True
            return None
        name = entry[1:3]
        if word == "accepted":
            fault = self.accepted_fault(name)
            self.accepted[name] = entry[3:]
        elif word == "begun":
            fault = self.begun_fault(name)
            self.begun[name] = True
        else:
            fault = self.answered_fault(name, entry[3], entry[4])
            self.answers[name] = entry[3]
        return fault

    def accepted_fault(self, name):
        if name in self.accepted:
            return "twice accepted"
        if name[0] in self.gone:
            return "gone"
        return "twice answered" if self.answers.get(name) == ("busy",) else None

    def begun_fault(self, name):
        if name not in self.accepted:
            return "not accepted"
        once, _ = self.accepted[name]
        if once and name in self.begun:
            return "twice begun"
        return "after no" if self.answers.get(name) in (("not begun",), ("busy",)) else None

    def answered_fault(self, name, answer, fate):
        if answer != ("busy",) and name not in self.accepted:
            return "not accepted"
        if name[0] in self.gone:
            return "gone"
        if name in self.answers:
            return "twice answered"
        return self.answer_fault(name, answer) or fate_fault(answer, fate)

    def answer_fault(self, name, answer):
        """The word of the sentence about its kind, its body or its beginning that an answer breaks, or None."""
        word = answer[0]
        if name in self.accepted and not is_kind(word, self.accepted[name][0]):
            return "kind"
        is_begun = name in self.begun
        if word == "done" and (not is_begun or answer[1] != self.accepted[name][1][::-1]):
            return "reply"
        if word == "begun" and not is_begun:
            return "begun"
        return "not begun" if word == "not begun" and is_begun else None


def is_kind(word, once):
    """Whether an accepted request can get an answer with this word."""
    if once:
        return word in ("done", "begun", "not begun", "unknown")
    return word in ("done", "none")


def fate_fault(answer, fate):
    word = answer[0]
    if word == "unknown" and fate != "open" or word == "not begun" and fate == "begun":
        return "fate"
    if word == "begun" and fate == "not begun" or (word == "busy") != (fate == ""):
        return "fate"
    return None


def judged(past):
    """The certificate for a past."""
    judge = Judge()
    for at, entry in enumerate(past):
        fault = judge.fault(entry)
        if fault is not None:
            return ("broken", at, fault)
    return ("kept", len([entry for entry in past if entry[0] == "answered"]))
