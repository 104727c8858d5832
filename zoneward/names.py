"""Names: tuples of labels, from the most specific one to the most general one."""

from zoneward.errors import InvalidName

LABEL_CHARACTERS = "abcdefghijklmnopqrstuvwxyz0123456789_-"
WILDCARD = "*"
MAX_LABEL_LENGTH = 63
MAX_NAME_SIZE = 255


def name_size(name):
    """Return the size of a name, which counts one more for each label and for the end."""
    return sum([len(label) + 1 for label in name]) + 1


def is_label(label):
    """Return True if a string is a label, otherwise False."""
    if label == WILDCARD:
        return True
    if not 1 <= len(label) <= MAX_LABEL_LENGTH:
        return False
    return all([character in LABEL_CHARACTERS for character in label])


def is_within(name, other):
    """Return True if the labels of the other name are the last labels of the name."""
    first = len(name) - len(other)
    return first >= 0 and name[first:] == other


def is_below(name, other):
    """Return True if the name is within the other one and not equal to it."""
    return name != other and is_within(name, other)


def format_name(name):
    """Return the absolute text of a name."""
    return ".".join(name) + "."


def parse_name(text, origin):
    """Return the name that a text stands for. Raise InvalidName with the place 0."""
    name = _labels_of(text, origin)
    if not all([is_label(label) for label in name]) or name_size(name) > MAX_NAME_SIZE:
        raise InvalidName(0)
    return name


def _labels_of(text, origin):
    """Return the labels that a text stands for, whether they are valid or not."""
    if text == "@":
        return origin
    if text == ".":
        return ()
    if text.endswith("."):
        return _split_labels(text[:-1])
    return _split_labels(text) + origin


def _split_labels(text):
    # lower() makes ASCII letters of some others (the Kelvin sign, say), which no label may have.
    if text.isascii():
        text = text.lower()
    return tuple(text.split("."))
