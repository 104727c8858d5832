"""Reading names and messages from byte lists."""

from zoneward.errors import InvalidForm, InvalidName, InvalidPointer, InvalidText, ReservedValue, Truncated
from zoneward.messages import (AUTHORITATIVE, CLASS_NUMBER, CODE_BITS, POINTER, QUESTION_COUNT, RECURSION, RESPONSE,
                               Message)
from zoneward.names import LABEL_CHARACTERS, MAX_LABEL_LENGTH, MAX_NAME_SIZE, WILDCARD, name_size
from zoneward.records import MAX_TTL, kind_of

FIRST_POINTER_BYTE = 192
# The characters from the space on, but with a space where the percent sign would stand.
CHARACTERS = " !\"#$ &'()*+,-./0123456789:;<=>?@ABCDEFGHIJKLMNOPQRSTUVWXYZ[\\]^_`abcdefghijklmnopqrstuvwxyz{|}~"
FIRST_CODE = 32
LAST_CODE = 126
PERCENT_CODE = 37


def read_name(data, place):
    """Return the name that begins at a place of a byte list, and the place behind its own part."""
    labels = []
    behind = None
    run = place
    at = place
    length = _number_at(data, at, 1)
    while length > 0:
        if length >= FIRST_POINTER_BYTE:
            if behind is None:
                behind = at + 2
            run = _target_at(data, at, run)
            at = run
        else:
            labels.append(_label_at(data, at))
            if name_size(labels) > MAX_NAME_SIZE:
                raise InvalidName(place)
            at += 1 + length
        length = _number_at(data, at, 1)
    if behind is None:
        behind = at + 1
    return tuple(labels), behind


def read_message(data):
    """Return the Message of a byte list."""
    reader = Reader(data)
    number = reader.take_number(2)
    flags = reader.take_flags()
    reader.take_question_count()
    counts = [reader.take_number(2) for _ in range(3)]
    question = reader.take_question()
    answer, authority, additional = [reader.take_records(count) for count in counts]
    reader.check_end()
    return Message(number, question,
                   response=flags & RESPONSE > 0,
                   authoritative=flags & AUTHORITATIVE > 0,
                   recursion=flags & RECURSION > 0,
                   code=flags & CODE_BITS,
                   answer=answer, authority=authority, additional=additional)


class Reader:
    """A byte list, and the place up to which it has been read."""

    def __init__(self, data):
        self.data = data
        self.place = 0

    def take_number(self, width):
        """Read a number of so many bytes."""
        number = _number_at(self.data, self.place, width)
        self.place += width
        return number

    def take_name(self):
        """Read a name."""
        name, self.place = read_name(self.data, self.place)
        return name

    def take_text(self):
        """Read a string of at most 255 characters, which its length precedes."""
        length = self.take_number(1)
        begin = self.place
        _check_complete(self.data, begin + length)
        self.place = begin + length
        characters = [_character_of(code) for code in self.data[begin:self.place]]
        if None in characters:
            raise InvalidText(begin + characters.index(None))
        return "".join(characters)

    def take_flags(self):
        """Read the flags and the code, which are one number."""
        place = self.place
        flags = self.take_number(2)
        if flags & (RESPONSE | AUTHORITATIVE | RECURSION | CODE_BITS) != flags:
            raise ReservedValue(place)
        return flags

    def take_question_count(self):
        """Read the number of questions, which is always the same."""
        place = self.place
        if self.take_number(2) != QUESTION_COUNT:
            raise InvalidForm(place)

    def take_kind(self, is_query):
        """Read the code of a kind and the class number behind it."""
        place = self.place
        kind = kind_of(self.take_number(2), is_query)
        if kind is None:
            raise ReservedValue(place)
        place = self.place
        if self.take_number(2) != CLASS_NUMBER:
            raise ReservedValue(place)
        return kind

    def take_question(self):
        """Read the question."""
        name = self.take_name()
        return name, self.take_kind(True)

    def take_records(self, count):
        """Read so many records."""
        return [self.take_record() for _ in range(count)]

    def take_record(self):
        """Read a record."""
        name = self.take_name()
        kind = self.take_kind(False)
        place = self.place
        ttl = self.take_number(4)
        if ttl > MAX_TTL:
            raise ReservedValue(place)
        length = self.take_number(2)
        begin = self.place
        _check_complete(self.data, begin + length)
        value = self.take_value(kind)
        if self.place != begin + length:
            raise InvalidForm(begin)
        return name, kind, ttl, value

    def take_value(self, kind):
        """Read the data of a record, however long its length says that they are."""
        if kind == "A":
            return self.take_number(4)
        if kind == "SOA":
            return self.take_soa_value()
        if kind == "MX":
            preference = self.take_number(2)
            return preference, self.take_name()
        if kind == "TXT":
            return self.take_text()
        return self.take_name()

    def take_soa_value(self):
        """Read the data of an SOA record, and drop the second name in them."""
        primary = self.take_name()
        self.take_name()
        numbers = [self.take_number(4) for _ in range(5)]
        return (primary, *numbers)

    def check_end(self):
        """Raise InvalidForm if bytes remain."""
        if self.place < len(self.data):
            raise InvalidForm(self.place)


def _check_complete(data, end):
    """Raise Truncated if a byte list ends before a place."""
    if end > len(data):
        raise Truncated(len(data))


def _number_at(data, place, width):
    """Return the number of so many bytes at a place."""
    _check_complete(data, place + width)
    number = 0
    for byte in data[place:place + width]:
        number = 256 * number + byte
    return number


def _target_at(data, place, run):
    """Return the target of the pointer at a place, which must be before the current run."""
    target = _number_at(data, place, 2) - POINTER
    if target >= run:
        raise InvalidPointer(place)
    return target


def _label_at(data, place):
    """Return the label whose length byte is at a place."""
    length = data[place]
    if length > MAX_LABEL_LENGTH:
        raise ReservedValue(place)
    begin = place + 1
    _check_complete(data, begin + length)
    codes = data[begin:begin + length]
    if codes == [ord(WILDCARD)]:
        return WILDCARD
    characters = [_label_character_of(code) for code in codes]
    if None in characters:
        raise InvalidName(begin + characters.index(None))
    return "".join(characters)


def _label_character_of(code):
    """Return the character of a label that a code stands for, or None if there is none."""
    character = _character_of(code)
    if character is None or character.lower() not in LABEL_CHARACTERS:
        return None
    return character.lower()


def _character_of(code):
    """Return the character of a TXT string with a code, or None if there is none."""
    if FIRST_CODE <= code <= LAST_CODE and code != PERCENT_CODE:
        return CHARACTERS[code - FIRST_CODE]
    return None
