"""Kinds of values that several parts of the program share."""

NUMBER_MOST = 1_000_000_000
WORD_MOST = 10


def is_integer(thing):
    # A bool is an int for Python, but not an integer of the document.
    return isinstance(thing, int) and not isinstance(thing, bool)


def is_between(thing, least, most):
    """Whether any value is an integer from least to most."""
    return is_integer(thing) and least <= thing <= most


def is_number(thing):
    return is_between(thing, 0, NUMBER_MOST)


def is_plain(string):
    """Whether each character of a string is one from the blank to the tilde."""
    # Exactly these of the ASCII characters count as printable.
    return string.isascii() and string.isprintable()


def is_decimal(string, most):
    """Whether a string is an integer from 0 to most in decimal digits without leading zeros."""
    # isdigit alone would also take digits of other scripts, and int fails on very long strings.
    if not string.isascii() or not string.isdigit() or len(string) > len(str(most)):
        return False
    return str(int(string)) == string and int(string) <= most


def is_word(thing):
    if not isinstance(thing, str) or not 1 <= len(thing) <= WORD_MOST:
        return False
    # Of the ASCII characters, these are the ones from a to z.
    return thing.isascii() and thing.isalpha() and thing.islower()


def are_counted(thing, most):
    """Whether any value is an ascending tuple of integers from 1 to most."""
    if not isinstance(thing, tuple) or not all([is_between(number, 1, most) for number in thing]):
        return False
    return list(thing) == sorted(set(thing))


def is_tagged(thing):
    """Whether any value is a tuple whose first item is a string."""
    return isinstance(thing, tuple) and thing != () and isinstance(thing[0], str)
