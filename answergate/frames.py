"""Frames: texts with their lengths in front, and how a stream of them is read."""

from answergate.basics import is_decimal, is_plain
from answergate.errors import BadPiece, BadRest, BadText

TEXT_MOST = 200


def is_text(thing):
    return isinstance(thing, str) and len(thing) <= TEXT_MOST and is_plain(thing)


def is_rest(thing):
    """Whether any value is a proper prefix of a frame."""
    if not isinstance(thing, str):
        return False
    digits, _, begun = thing.partition(":")
    if not is_decimal(digits, TEXT_MOST):
        return thing == ""
    return len(begun) <= int(digits) and is_plain(begun)


def frame(text):
    if not is_text(text):
        raise BadText(text)
    return f"{len(text)}:{text},"


def read(rest, piece):
    """Read the string piece after the rest, up to its end or its first wrong character."""
    if not is_rest(rest):
        raise BadRest(rest)
    if not isinstance(piece, str):
        raise BadPiece(piece)
    stream = rest + piece
    texts = []
    start = 0
    while start < len(stream):
        kind, text, at = next_frame(stream, start)
        if kind == "wrong":
            # No character of the rest is wrong, so this one stands in piece.
            return ("wrong", tuple(texts), at - len(rest))
        if kind == "part":
            break
        texts.append(text)
        start = at
    return ("read", tuple(texts), stream[start:])


def next_frame(stream, start):
    """What stands in stream from start on, as a triple (kind, text, at).

    "whole": a frame with this text, which ends before the position at.
    "part": a rest, up to the end of stream. "wrong": a wrong character, at the position at.
    """
    colon = digits_end(stream, start)
    if colon == len(stream):
        return ("part", "", colon)
    if colon == start or stream[colon] != ":":
        return ("wrong", "", colon)
    comma = colon + 1 + int(stream[start:colon])
    end = plain_end(stream, colon + 1, comma)
    if end == len(stream):
        return ("part", "", end)
    # Where end is before the comma, the character there is one that no text has, so no comma either.
    if stream[end] != ",":
        return ("wrong", "", end)
    return ("whole", stream[colon + 1:comma], comma + 1)


def digits_end(stream, start):
    """The position behind the digits from start on, as far as the length of a text begins so."""
    end = start
    while end < len(stream) and is_decimal(stream[start:end + 1], TEXT_MOST):
        end += 1
    return end


def plain_end(stream, start, stop):
    """The position of the first character from start to stop that no text has, or their end."""
    part = stream[start:stop]
    if is_plain(part):
        return start + len(part)
    return start + [is_plain(char) for char in part].index(False)
