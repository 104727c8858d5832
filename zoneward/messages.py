"""Messages, and the byte lists that they are written as."""

from zoneward.records import code_of

# The bits of the flags, of which the lowest ones are the code.
RESPONSE = 32768
AUTHORITATIVE = 1024
RECURSION = 256
CODE_BITS = 15

# How many numbers there are for messages.
NUMBERS = 65536
# The codes of responses.
NO_ERROR = 0
FAILURE = 2
NO_SUCH_NAME = 3
REFUSED = 5

QUESTION_COUNT = 1
CLASS_NUMBER = 1
# A pointer to a place is the number POINTER plus the place, which is less than POINTER_LIMIT.
POINTER = 49152
POINTER_LIMIT = 16384


class Message:
    """A query or a response."""

    def __init__(self, number, question, *, response=False, authoritative=False, recursion=False, code=0,
                 answer=(), authority=(), additional=()):
        self.number = number
        self.question = question
        self.response = response
        self.authoritative = authoritative
        self.recursion = recursion
        self.code = code
        self.answer = list(answer)
        self.authority = list(authority)
        self.additional = list(additional)

    def fields(self):
        """Return the tuple of all that the message consists of."""
        return (self.number, self.question, self.response, self.authoritative, self.recursion, self.code,
                self.answer, self.authority, self.additional)

    def __eq__(self, other):
        return isinstance(other, Message) and self.fields() == other.fields()


def write_message(message):
    """Return the byte list of a message."""
    lists = (message.answer, message.authority, message.additional)
    writer = Writer()
    writer.put_number(message.number, 2)
    writer.put_number(_flags_of(message), 2)
    writer.put_number(QUESTION_COUNT, 2)
    for records in lists:
        writer.put_number(len(records), 2)
    writer.put_question(message.question)
    for records in lists:
        for record in records:
            writer.put_record(record)
    return writer.data


class Writer:
    """A byte list that grows, with the first place of each rest of a name in it."""

    def __init__(self):
        self.data = []
        self.places = {}

    def put_number(self, number, width):
        """Append a number in so many bytes."""
        self.data.extend(_bytes_of(number, width))

    def put_text(self, text):
        """Append the length of a text in one byte, and its characters."""
        self.put_number(len(text), 1)
        self.data.extend([ord(character) for character in text])

    def put_name(self, name):
        """Append a name, with a pointer for the longest rest of it that has a place."""
        for first, label in enumerate(name):
            rest = name[first:]
            if rest in self.places:
                self.put_number(POINTER + self.places[rest], 2)
                return
            if len(self.data) < POINTER_LIMIT:
                self.places[rest] = len(self.data)
            self.put_text(label)
        self.put_number(0, 1)

    def put_question(self, question):
        """Append a question."""
        name, kind = question
        self.put_name(name)
        self.put_number(code_of(kind), 2)
        self.put_number(CLASS_NUMBER, 2)

    def put_record(self, record):
        """Append a record."""
        name, kind, ttl, value = record
        self.put_question((name, kind))
        self.put_number(ttl, 4)
        # How long the data are is known only behind them, as it depends on the pointers in them.
        self.put_number(0, 2)
        begin = len(self.data)
        self.put_value(kind, value)
        self.data[begin - 2:begin] = _bytes_of(len(self.data) - begin, 2)

    def put_value(self, kind, value):
        """Append the data of a record."""
        if kind == "A":
            self.put_number(value, 4)
        elif kind == "SOA":
            self.put_soa_value(value)
        elif kind == "MX":
            preference, name = value
            self.put_number(preference, 2)
            self.put_name(name)
        elif kind == "TXT":
            self.put_text(value)
        else:
            self.put_name(value)

    def put_soa_value(self, value):
        """Append the data of an SOA record."""
        primary, *numbers = value
        self.put_name(primary)
        self.put_name(())
        for number in numbers:
            self.put_number(number, 4)


def _flags_of(message):
    """Return the number that the flags and the code of a message make up."""
    flags = message.code
    if message.response:
        flags += RESPONSE
    if message.authoritative:
        flags += AUTHORITATIVE
    if message.recursion:
        flags += RECURSION
    return flags


def _bytes_of(number, width):
    """Return the list of the last bytes of a number, the most significant one first."""
    return [(number >> (8 * at)) & 255 for at in reversed(range(width))]
