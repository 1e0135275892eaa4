"""Houses: which requests of each link came, were begun and were answered."""

from answergate.basics import are_counted, is_number, is_word
from answergate.errors import BadHouse, BadLabel, BadName, BadPiece, BadText, IsUp, NotDue, NothingDue, NotUp
from answergate.frames import is_rest, read
from answergate.messages import is_body, read_message


def is_row(thing):
    if not isinstance(thing, tuple) or len(thing) != 6:
        return False
    label, rest, came, begun, done, state = thing
    if not is_number(label) or not is_rest(rest):
        return False
    if not isinstance(came, tuple) or not all([is_body(body) for body in came]):
        return False
    if not is_number(begun) or begun > len(came) or not are_counted(done, begun):
        return False
    if state == "closed":
        return begun == len(came) and rest == ""
    return state == "open" or state == "away" and begun == len(came)


def is_house(thing):
    if not isinstance(thing, tuple) or len(thing) != 5:
        return False
    name, boot, up, leaving, rows = thing
    if not is_word(name) or not is_number(boot) or boot == 0:
        return False
    if not isinstance(up, bool) or not isinstance(leaving, bool):
        return False
    if not isinstance(rows, tuple) or not all([is_row(row) for row in rows]):
        return False
    labels = [row[0] for row in rows]
    if labels != sorted(set(labels)):
        return False
    if not up:
        return not leaving and rows == ()
    return not leaving or "open" not in [row[5] for row in rows]


def house_new(name):
    if not is_word(name):
        raise BadName(name)
    return (name, 1, True, False, ())


def row_of(house, label):
    """The row of a house with this label, or None."""
    for row in house[4]:
        if row[0] == label:
            return row
    return None


def checked_row(house, label):
    """The row with this label, where both may be any values."""
    if not is_house(house):
        raise BadHouse(house)
    row = row_of(house, label)
    # True is equal to 1, but no label.
    if row is None or not is_number(label):
        raise BadLabel(label)
    return row


def with_row(house, row):
    """The house with this row in the place of the one with its label, if there is one."""
    name, boot, up, leaving, rows = house
    others = [other for other in rows if other[0] != row[0]]
    return (name, boot, up, leaving, tuple(sorted([*others, row])))


def shut(row):
    """The row, closed: what was not begun on it is discarded."""
    label, _, came, begun, done, _ = row
    return (label, "", came[:begun], begun, done, "closed")


def met(house, label):
    """The house after meeting a link, and the messages that it writes on it: none if it refuses the link."""
    if not is_house(house):
        raise BadHouse(house)
    if not is_number(label) or row_of(house, label) is not None:
        raise BadLabel(label)
    _, boot, up, leaving, _ = house
    if leaving or not up:
        return (house, ())
    return (with_row(house, (label, "", (), 0, (), "open")), (("hello", boot),))


def took(house, label, piece):
    """The house after taking characters, the messages that it writes, and whether there was no offence."""
    _, rest, _, _, _, state = checked_row(house, label)
    if not isinstance(piece, str):
        raise BadPiece(piece)
    if state == "closed":
        return (house, (), True)
    kind, texts, end = read(rest, piece)
    messages = []
    for text in texts:
        house, written, whole = processed(house, label, text)
        messages.extend(written)
        if not whole:
            return (with_row(house, shut(row_of(house, label))), tuple(messages), False)
    row = row_of(house, label)
    if kind == "wrong":
        return (with_row(house, shut(row)), tuple(messages), False)
    _, _, came, begun, done, state = row
    return (with_row(house, (label, end, came, begun, done, state)), tuple(messages), True)


def processed(house, label, text):
    """The same for a complete text on a row that is not closed, which stays as it is after an offence."""
    _, rest, came, begun, done, state = row_of(house, label)
    try:
        message = read_message(text)
    except BadText:
        return (house, (), False)
    word = message[0]
    if word == "look":
        return (house, (("well",),), True)
    if word == "past" and message[1] != label:
        house, answer = told_past(house, message[1], message[2])
        return (house, (answer,), True)
    if word == "ask" and state == "away":
        return (house, (), True)
    if word == "ask" and message[1] == len(came) + 1:
        row = (label, rest, (*came, message[2]), begun, done, state)
        return (with_row(house, row), (), True)
    return (house, (), False)


def told_past(house, label, boot):
    """The house after a past that arrived on another link than the one with this label, and its answer."""
    if boot != house[1]:
        return (house, ("forgot", label))
    row = shut(row_of(house, label) or (label, "", (), 0, (), "open"))
    return (with_row(house, row), ("upto", label, row[3]))


def began(house, label):
    row = checked_row(house, label)
    _, rest, came, begun, done, state = row
    # In a row that is not open nothing is left to begin: it has no other requests than the begun ones.
    if begun == len(came):
        raise NothingDue(label)
    return with_row(house, (label, rest, came, begun + 1, done, state))


def answered(house, label, number):
    """The house after answering a request, and the message that it writes."""
    _, rest, came, begun, done, state = checked_row(house, label)
    if not is_number(number) or not 1 <= number <= begun or number in done or state == "closed":
        raise NotDue(number)
    row = (label, rest, came, begun, tuple(sorted([*done, number])), state)
    return (with_row(house, row), ("answer", number, came[number - 1][::-1]))


def left(house):
    """The house after leaving, and pairs of a label and the message that it writes on this link."""
    if not is_house(house):
        raise BadHouse(house)
    name, boot, up, _, rows = house
    if not up:
        raise NotUp(name)
    ends = tuple([(row[0], ("away", row[3])) for row in rows if row[5] == "open"])
    return ((name, boot, up, True, tuple([gone_away(row) for row in rows])), ends)


def gone_away(row):
    label, rest, came, begun, done, state = row
    if state != "open":
        return row
    return (label, rest, came[:begun], begun, done, "away")


def fell(house):
    if not is_house(house):
        raise BadHouse(house)
    name, boot, up, _, _ = house
    if not up:
        raise NotUp(name)
    return (name, boot, False, False, ())


def rose(house):
    if not is_house(house):
        raise BadHouse(house)
    name, boot, up, leaving, rows = house
    if up:
        raise IsUp(name)
    return (name, boot + 1, True, leaving, rows)
