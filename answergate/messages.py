"""Messages between the proxy and its houses, and their texts."""

from answergate.basics import NUMBER_MOST, is_decimal, is_number, is_plain
from answergate.errors import BadMessage, BadText

BODY_MOST = 150

# What follows the first item of a message: "count" is a number from 1 on.
FORMS = {
    "ask": ("count", "body"),
    "past": ("number", "number"),
    "look": (),
    "hello": ("number",),
    "answer": ("count", "body"),
    "upto": ("number", "number"),
    "forgot": ("number",),
    "well": (),
    "away": ("number",),
}
TOWARD = ("ask", "past", "look")


def is_body(thing):
    return isinstance(thing, str) and len(thing) <= BODY_MOST and is_plain(thing)


def is_item(kind, thing):
    """Whether any value is an item of this kind in a message."""
    if kind == "body":
        return is_body(thing)
    return is_number(thing) and (kind == "number" or thing >= 1)


def is_message(thing):
    if not isinstance(thing, tuple) or thing == ():
        return False
    word, items = thing[0], thing[1:]
    if not isinstance(word, str) or word not in FORMS:
        return False
    kinds = FORMS[word]
    return len(items) == len(kinds) and all([is_item(kind, item) for kind, item in zip(kinds, items)])


def side(message):
    if not is_message(message):
        raise BadMessage(message)
    return "toward" if message[0] in TOWARD else "back"


def message_text(message):
    if not is_message(message):
        raise BadMessage(message)
    return " ".join([str(item) for item in message])


def read_message(text):
    """The message with this text."""
    if not isinstance(text, str):
        raise BadText(text)
    # No message has more than two items behind its first one, and the last may be a body with blanks.
    fields = text.split(" ", 2)
    kinds = FORMS.get(fields[0], ())
    items = [read_item(kind, field) for kind, field in zip(kinds, fields[1:])]
    message = (fields[0], *items)
    if len(message) != len(fields) or not is_message(message):
        raise BadText(text)
    return message


def read_item(kind, field):
    """The item of this kind that is written so, or None for a number that is not."""
    if kind == "body":
        return field
    return int(field) if is_decimal(field, NUMBER_MOST) else None
